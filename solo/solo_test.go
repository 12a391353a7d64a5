package solo

import (
	"fmt"
	"math/rand"
	"strings"
	"testing"

	"trireme/api"
	"trireme/commit"
	"trireme/disk"
	"trireme/group"
	"trireme/snaps"
)

func layDisk(t *testing.T, sectors int) *disk.Disk {
	t.Helper()
	d, e := disk.New(sectors)
	if e != api.OK {
		t.Fatal(e)
	}
	return d
}

func lay(t *testing.T, d *disk.Disk) *Solo {
	t.Helper()
	s, e := New(d)
	if s == nil || e != api.OK {
		t.Fatal(e)
	}
	return s
}

func open(t *testing.T, d *disk.Disk) *Solo {
	t.Helper()
	s, e := Open(d)
	if s == nil || e != api.OK {
		t.Fatal(e)
	}
	return s
}

func op(kind int, path string) api.Op { return api.Op{Kind: kind, Path: path} }

func show(v any) string { return fmt.Sprint(v) }

// P16.1
func TestNewAndOpen(t *testing.T) {
	if s, e := New(layDisk(t, 5)); s != nil || e != api.ErrArg {
		t.Error(e)
	}
	if s, e := Open(layDisk(t, 50)); s != nil || e != api.ErrSuper {
		t.Error(e)
	}
	d := layDisk(t, 50)
	s := lay(t, d)
	if s.Gen() != 0 || show(s.State()) != show(snaps.New()) {
		t.Errorf("%d, %v", s.Gen(), s.State())
	}
	s.Do(op(api.OpCreate, "/a"))
	back := open(t, d.Crash(nil))
	if back.Gen() != 1 || show(back.State()) != show(s.State()) {
		t.Errorf("%d, %v", back.Gen(), back.State())
	}
	d.Limit(0)
	d.Flush()
	for _, f := range []func(*disk.Disk) (*Solo, api.Errno){New, Open} {
		if s, e := f(d); s != nil || e != api.ErrDown {
			t.Error(e)
		}
	}
}

// P16.2
func TestDo(t *testing.T) {
	d := layDisk(t, 100)
	s := lay(t, d)
	model := snaps.New()
	for i, o := range []api.Op{op(api.OpMkdir, "/a"), op(api.OpCreate, "/a/b"), {Kind: api.OpWrite, Path: "/a/b", Data: []byte("hello")}, op(api.OpSnap, "s"),
		op(api.OpRemove, "/a/b"), op(api.OpRemove, "/none"), op(api.OpStat, "/a"), op(api.OpRollback, "s"), {Kind: api.OpRead, Path: "/a/b", N: 9}, op(api.OpSnaps, "")} {
		var want api.Answer
		gen := uint64(i + 1)
		model, want = snaps.Do(model, o, gen)
		a, e := s.Do(o)
		if e != api.OK || show(a) != show(want) || show(s.State()) != show(model) || s.Gen() != gen {
			t.Errorf("%v: %v, %v", o, a, e)
		}
		sup := s.Super()
		if sup.Commit != gen || sup.View != 0 || sup.Normal != 0 {
			t.Errorf("%v", sup)
		}
		r, w, e := commit.Load(s.Bag(), sup.Head)
		if e != api.OK || r.View != 0 || r.Call.Client != 0 || r.Call.Number != gen || show(r.Call.Op) != show(o) || len(w.Seats) != 1 || w.Seats[0].Number != gen {
			t.Errorf("%v, %v", r, w.Seats)
		}
		back := open(t, d.Crash(nil))
		if show(back.State()) != show(model) || back.Gen() != gen {
			t.Errorf("%v doesn't last", o)
		}
	}
}

// P16.2: on a disk that a node kept, with a View of its own and seats of other clients.
func TestDoBehindANode(t *testing.T) {
	d := layDisk(t, 100)
	g, _ := group.New(d)
	for i, c := range []api.Call{{Client: 2, Number: 9, Op: op(api.OpMkdir, "/a")}, {Client: 0, Number: 40, Op: op(api.OpMkdir, "/b")}, {Client: 1, Number: 3, Op: op(api.OpMkdir, "/c")}} {
		h, more, _, _ := commit.Next(g.Bag(), g.Super().Head, 7, c)
		g.Save(api.Super{View: 7, Normal: 5, Gen: uint64(i + 1), Head: h}, more)
	}
	s := open(t, d)
	if a, e := s.Do(op(api.OpCreate, "/d")); e != api.OK || a.Code != api.OK {
		t.Fatal(e)
	}
	r, _, _ := commit.Load(s.Bag(), s.Super().Head)
	if sup := s.Super(); r.Call.Number != 41 || sup.Gen != 4 || sup.Commit != 4 || sup.View != 0 || sup.Normal != 0 {
		t.Errorf("%v, %v", r.Call, sup)
	}
}

// P16.2
func TestDoErrors(t *testing.T) {
	d := layDisk(t, 30)
	s := lay(t, d)
	s.Do(op(api.OpCreate, "/a"))
	before, gen := show(s.State()), s.Gen()
	fails := func(o api.Op, want api.Errno) {
		t.Helper()
		if a, e := s.Do(o); e != want || show(a) != show(api.Answer{}) || show(s.State()) != before || s.Gen() != gen {
			t.Errorf("%v: %v, %v", o, a, e)
		}
	}
	fails(api.Op{}, api.ErrArg)
	fails(op(14, "/a"), api.ErrArg)
	fails(op(api.OpCreate, strings.Repeat("a", 33)), api.ErrArg)
	fails(api.Op{Kind: api.OpWrite, Path: "/a", Data: make([]byte, 65)}, api.ErrArg)
	fails(api.Op{Kind: api.OpRead, Path: "/a", Off: -1}, api.ErrArg)
	d.Limit(2)
	fails(op(api.OpCreate, "/b"), api.ErrDown)
	fails(op(api.OpCreate, "/b"), api.ErrDown)
	fails(api.Op{}, api.ErrArg)

	d = layDisk(t, 6)
	s = lay(t, d)
	before, gen = show(s.State()), 0
	fails(op(api.OpCreate, "/b"), api.ErrNoSpace)
}

// P16.2: the last number of a seat, and the last Gen, can't be gone beyond.
func TestLastNumber(t *testing.T) {
	d := layDisk(t, 50)
	g, _ := group.New(d)
	h, more, _, _ := commit.Next(g.Bag(), g.Super().Head, 0, api.Call{Number: 1<<64 - 1, Op: op(api.OpMkdir, "/a")})
	g.Save(api.Super{Gen: 1, Head: h}, more)
	s := open(t, d)
	before := show(s.State())
	if _, e := s.Do(op(api.OpCreate, "/b")); e != api.ErrArg || show(s.State()) != before {
		t.Error(e)
	}
}

// P16.3
func TestWheneverThePowerGoes(t *testing.T) {
	rnd := rand.New(rand.NewSource(6))
	kinds := []int{api.OpCreate, api.OpMkdir, api.OpWrite, api.OpTruncate, api.OpRename, api.OpRemove, api.OpSnap, api.OpUnsnap, api.OpRollback}
	paths := []string{"/a", "/b", "/a/a", "/a/b", "a", "b"}
	for range 25 {
		d := layDisk(t, 120)
		s := lay(t, d)
		model, gen := snaps.New(), uint64(0)
		for range 40 {
			o := api.Op{Kind: kinds[rnd.Intn(len(kinds))], Path: paths[rnd.Intn(len(paths))], To: paths[rnd.Intn(len(paths))], Off: rnd.Intn(100), N: rnd.Intn(190), Data: []byte("hello")}
			after, want := snaps.Do(model, o, gen+1)
			limit := rnd.Intn(40)
			d.Limit(limit)
			a, e := s.Do(o)
			if e == api.OK && show(a) != show(want) {
				t.Fatalf("%v: %v", o, a)
			}
			fates := make([]int, 40)
			for i := range fates {
				fates[i] = rnd.Intn(1 << 20)
			}
			d = d.Crash(fates)
			s = open(t, d)
			if e == api.OK || s.Gen() == gen+1 {
				model, gen = after, gen+1
			}
			if show(s.State()) != show(model) || s.Gen() != gen {
				t.Fatalf("%v, limit %d: another state", o, limit)
			}
		}
	}
}

// P16.4
func TestNothingShared(t *testing.T) {
	s := lay(t, layDisk(t, 60))
	o := api.Op{Kind: api.OpWrite, Path: "/a", Data: []byte("hello")}
	s.Do(op(api.OpCreate, "/a"))
	s.Do(o)
	s.Do(op(api.OpSnap, "s"))
	o.Data[0] = '!'
	before := show(s.State())
	a, _ := s.Do(api.Op{Kind: api.OpRead, Path: "/a", N: 9})
	a.Data[0] = '!'
	w := s.State()
	w.Files[0].Value[0], w.Snaps[0].Files[0].Value[0], w.Snaps[0].Name = '!', '!', "!"
	if show(s.State()) != before || !strings.Contains(before, show([]byte("hello"))) {
		t.Error("something is shared")
	}
}
