package table

import (
	"fmt"
	"testing"

	"trireme/api"
	"trireme/snaps"
)

func seat(client int, number uint64, data string) api.Seat {
	return api.Seat{Client: client, Number: number, Answer: api.Answer{N: int(number % 100), Data: []byte(data), Names: []string{data}}}
}

func show(v any) string { return fmt.Sprint(v) }

// P13.1
func TestLook(t *testing.T) {
	seats := []api.Seat{seat(0, 5, "zero"), seat(2, 1<<64-1, "two")}
	for _, c := range []struct {
		client int
		number uint64
		how    int
		data   string
	}{
		{0, 0, api.Stale, ""}, {0, 4, api.Stale, ""}, {0, 5, api.Again, "zero"}, {0, 6, api.Fresh, ""}, {0, 1<<64 - 1, api.Fresh, ""},
		{1, 0, api.Stale, ""}, {1, 1, api.Fresh, ""}, {1, 9, api.Fresh, ""}, {2, 1<<64 - 1, api.Again, "two"}, {2, 1, api.Stale, ""}, {2, 0, api.Stale, ""}, {3, 1, api.Fresh, ""},
	} {
		how, a := Look(seats, c.client, c.number)
		if how != c.how || string(a.Data) != c.data || how != api.Again && show(a) != show(api.Answer{}) {
			t.Errorf("%d, %d: %d, %v", c.client, c.number, how, a)
		}
	}
	if how, _ := Look(nil, 0, 1); how != api.Fresh {
		t.Error("no seats at all")
	}
	if api.Fresh != 0 || api.Again != 1 || api.Stale != 2 {
		t.Error("the numbers of what Look tells")
	}
}

// P13.1
func TestPut(t *testing.T) {
	seats := []api.Seat{seat(1, 5, "one"), seat(2, 7, "two")}
	before := show(seats)
	for _, c := range []struct {
		s    api.Seat
		want []api.Seat
	}{
		{seat(0, 1, "new"), []api.Seat{seat(0, 1, "new"), seats[0], seats[1]}},
		{seat(1, 6, "new"), []api.Seat{seat(1, 6, "new"), seats[1]}},
		{seat(2, 1, "new"), []api.Seat{seats[0], seat(2, 1, "new")}},
		{seat(3, 1, "new"), []api.Seat{seats[0], seats[1], seat(3, 1, "new")}},
	} {
		if got := Put(seats, c.s); show(got) != show(c.want) || show(seats) != before {
			t.Errorf("%v: %v", c.s, got)
		}
	}
	if got := Put(nil, seat(3, 1, "x")); show(got) != show([]api.Seat{seat(3, 1, "x")}) {
		t.Errorf("%v", got)
	}
}

// P13.2
func TestNewAndCheck(t *testing.T) {
	w := New()
	if show(w) != show(api.Whole{State: snaps.New()}) || Check(w) != api.OK {
		t.Errorf("%v", w)
	}
	for what, c := range map[string]struct {
		seats []api.Seat
		want  api.Errno
	}{
		"all":           {[]api.Seat{seat(0, 1, "a"), seat(1, 1, "b"), seat(2, 1<<64-1, "c"), seat(3, 3, "d")}, 0},
		"one":           {[]api.Seat{seat(3, 3, "d")}, 0},
		"twice":         {[]api.Seat{seat(1, 1, "a"), seat(1, 2, "b")}, api.ErrForm},
		"falling":       {[]api.Seat{seat(1, 1, "a"), seat(0, 2, "b")}, api.ErrForm},
		"below":         {[]api.Seat{seat(-1, 1, "a")}, api.ErrForm},
		"beyond":        {[]api.Seat{seat(4, 1, "a")}, api.ErrForm},
		"number 0":      {[]api.Seat{seat(1, 0, "a")}, api.ErrForm},
		"wrong answer":  {[]api.Seat{{Client: 1, Number: 1, Answer: api.Answer{N: -1}}}, api.ErrForm},
		"wrong answer2": {[]api.Seat{seat(0, 1, "a"), {Client: 1, Number: 1, Answer: api.Answer{Names: []string{""}}}}, api.ErrForm},
	} {
		w.Seats = c.seats
		if e := Check(w); e != c.want {
			t.Errorf("%s: %v, not %v", what, e, c.want)
		}
	}
	if e := Check(api.Whole{}); e != api.ErrForm {
		t.Errorf("no files: %v", e)
	}
}

func call(client int, number uint64, kind int, path string) api.Call {
	return api.Call{Client: client, Number: number, Op: api.Op{Kind: kind, Path: path}}
}

// P13.3
func TestDo(t *testing.T) {
	w := New()
	do := func(c api.Call, gen uint64, how int, code api.Errno) api.Answer {
		t.Helper()
		before := show(w)
		next, a, got := Do(w, c, gen)
		if got != how || a.Code != code || show(w) != before || Check(next) != api.OK {
			t.Errorf("%v: %d, %v", c, got, a)
		}
		if how != api.Fresh && show(next) != before {
			t.Errorf("%v: something has changed", c)
		}
		if how == api.Fresh {
			state, answer := snaps.Do(w.State, c.Op, gen)
			want := api.Whole{State: state, Seats: Put(w.Seats, api.Seat{Client: c.Client, Number: c.Number, Answer: answer})}
			if show(next) != show(want) || show(a) != show(answer) {
				t.Errorf("%v: %v, %v", c, next, a)
			}
		}
		w = next
		return a
	}
	do(call(1, 5, api.OpCreate, "/a"), 1, api.Fresh, 0)
	do(call(1, 5, api.OpCreate, "/a"), 2, api.Again, 0)
	do(call(1, 5, api.OpRemove, "/a"), 2, api.Again, 0)
	do(call(1, 4, api.OpCreate, "/b"), 2, api.Stale, 0)
	do(call(1, 6, api.OpCreate, "/a"), 2, api.Fresh, api.ErrExists)
	do(call(1, 6, api.OpCreate, "/x"), 2, api.Again, api.ErrExists)
	do(call(0, 0, api.OpCreate, "/b"), 2, api.Stale, 0)
	do(call(0, 1, api.OpSnap, "s"), 7, api.Fresh, 0)
	do(call(3, 1, api.OpMkdir, "/d"), 8, api.Fresh, 0)
	for _, client := range []int{-1 << 63, -1, 4, 1<<63 - 1} {
		do(call(client, 1, api.OpCreate, "/b"), 9, api.Stale, 0)
	}
	if w.Snaps[0].Gen != 7 || len(w.Seats) != 3 {
		t.Errorf("%v", w)
	}
	a := do(call(2, 1, api.OpStat, "/"), 9, api.Fresh, 0)
	if again := do(call(2, 1, api.OpStat, "/"), 9, api.Again, 0); show(a) != show(again) || a.N != 2 {
		t.Errorf("%v, then %v", a, again)
	}
}

// P1: seats and wholes that aren't right are no reason to panic.
func TestWrongOnes(t *testing.T) {
	seats := []api.Seat{seat(9, 0, "a"), seat(-3, 1, "b"), seat(9, 4, "c")}
	for client := -4; client < 12; client++ {
		for number := range uint64(4) {
			Look(seats, client, number)
			Put(seats, seat(client, number, "x"))
			Do(api.Whole{Seats: seats}, call(client, number, 1, "/a"), 1)
		}
	}
}

// P13.4
func TestNothingShared(t *testing.T) {
	spoil := func(s []api.Seat) {
		for i := range s {
			s[i].Answer.Data[0], s[i].Answer.Names[0] = '!', "!"
			s[i].Number = 99
		}
	}
	fresh := func() []api.Seat { return []api.Seat{seat(0, 5, "a"), seat(1, 6, "b")} }
	seats, more := fresh(), seat(2, 7, "c")
	next := Put(seats[:2:2], more)
	spoil(next)
	if show(seats) != show(fresh()) || show(more) != show(seat(2, 7, "c")) {
		t.Error("Put shares memory")
	}
	_, a := Look(seats, 0, 5)
	a.Data[0], a.Names[0] = '!', "!"
	if show(seats) != show(fresh()) {
		t.Error("Look shares memory")
	}
	for _, c := range []api.Call{call(0, 5, 1, "/a"), call(0, 4, 1, "/a"), call(0, 6, api.OpStat, "/"), call(1, 7, api.OpSnap, "s")} {
		w := New()
		w.Seats = fresh()
		before := show(w)
		next, a, _ := Do(w, c, 3)
		for i := range a.Data {
			a.Data[i] = '!'
		}
		for _, s := range next.Seats {
			if string(s.Answer.Data) == "!" {
				t.Errorf("%v: answer and whole share memory", c)
			}
		}
		for i := range next.Seats {
			for k := range next.Seats[i].Answer.Data {
				next.Seats[i].Answer.Data[k] = '!'
			}
			for k := range next.Seats[i].Answer.Names {
				next.Seats[i].Answer.Names[k] = "!"
			}
		}
		next.Files[0].Key[0] = '!'
		if show(w) != before {
			t.Errorf("%v: Do shares memory", c)
		}
	}
}
