package cluster

import (
	"fmt"
	"testing"

	"trireme/api"
)

// The document's ten examples of the whole (but the eighth, which is layer 4's and 5's).

func TestExample1And2(t *testing.T) {
	w := lay(t, 3, 1)
	call(t, w, 0, mkdir("/a"))
	if w.Len() != 3 {
		t.Fatalf("a message to each: %d", w.Len())
	}
	do(t, w, api.Event{Kind: api.EvCopy, K: 0}, api.OK)
	do(t, w, api.Event{Kind: api.EvDeliver, K: 0}, api.OK)
	if s := super(t, w, 0); s.Gen != 1 || w.Commit(0) != 0 {
		t.Errorf("%v", s)
	}
	flow(t, w)
	d := last(t, w)
	if d.End < 0 || d.Answer.Code != api.OK || w.Commit(0) != 1 {
		t.Errorf("%v", d)
	}
	alike(t, "it is done once", w, 0, 1, 0, 1, 2)
	whole, _ := w.Whole(2)
	if len(whole.Files) != 2 || len(whole.Seats) != 1 {
		t.Errorf("%v", whole)
	}
}

func TestExample3And4(t *testing.T) {
	w := lay(t, 3, 1)
	call(t, w, 0, mkdir("/a"))
	flow(t, w)
	do(t, w, api.Event{Kind: api.EvPower, Who: 0, K: 2}, api.OK)
	call(t, w, 0, mkdir("/b"))
	flow(t, w)
	if _, ok := w.Super(0); ok || last(t, w).End >= 0 {
		t.Error("the leader is off")
	}
	tick(t, w, 1, 4)
	flow(t, w)
	alike(t, "node 1 leads", w, 1, 1, 1, 2)
	do(t, w, api.Event{Kind: api.EvAsk}, api.OK)
	flow(t, w)
	if d := last(t, w); d.End < 0 || d.Answer.Code != api.OK {
		t.Errorf("%v", d)
	}
	crash(t, w, 0, 1, 2, 3)
	open(t, w, 0)
	tick(t, w, 1, 1)
	flow(t, w)
	alike(t, "it follows", w, 1, 2, 0, 1, 2)
}

func TestExample5(t *testing.T) {
	for _, comes := range []bool{false, true} {
		w := lay(t, 3, 2)
		call(t, w, 0, mkdir("/a"))
		flow(t, w)
		call(t, w, 0, mkdir("/lost"))
		do(t, w, api.Event{Kind: api.EvDeliver}, api.OK)
		drop(t, w)
		if s := super(t, w, 0); s.Gen != 2 {
			t.Fatalf("made alone: %v", s)
		}
		gen, want := uint64(2), "/other"
		if comes { // node 0 comes to the view, and not node 2
			tick(t, w, 1, 4)
			for k := 0; k < w.Len(); {
				if m, _ := w.Peek(k); m.From == 2 || m.To == 2 {
					do(t, w, api.Event{Kind: api.EvDrop, K: k}, api.OK)
				} else {
					do(t, w, api.Event{Kind: api.EvDeliver, K: k}, api.OK)
					k = 0
				}
			}
			gen, want = 3, "/lost"
		} else {
			crash(t, w, 0)
			tick(t, w, 1, 4)
			flow(t, w)
			open(t, w, 0)
			if s := super(t, w, 0); s.Gen != 2 {
				t.Errorf("it lasts so far: %v", s)
			}
		}
		call(t, w, 1, mkdir("/other"))
		flow(t, w)
		tick(t, w, 1, 1)
		flow(t, w)
		alike(t, fmt.Sprint(comes), w, 1, gen, 0, 1, 2)
		whole, _ := w.Whole(0)
		found := false
		for _, p := range whole.Files {
			found = found || string(p.Key) == "n"+want
		}
		if len(whole.Files) != int(gen)+1 || !found {
			t.Errorf("%q", whole.Files)
		}
	}
}

func TestExample6(t *testing.T) {
	w := lay(t, 3, 1)
	var roots []api.Hash
	for _, o := range []api.Op{op(api.OpCreate, "/f"), op(api.OpSnap, "s"), op(api.OpRemove, "/f"), op(api.OpRollback, "s")} {
		call(t, w, 0, o)
		flow(t, w)
		tick(t, w, 0, 1)
		flow(t, w)
		r, _ := w.Record(super(t, w, 2).Head)
		roots = append(roots, r.Files)
	}
	alike(t, "all", w, 0, 4, 0, 1, 2)
	if roots[0] != roots[1] || roots[1] == roots[2] || roots[3] != roots[0] {
		t.Errorf("%x", roots)
	}
}

func TestExample7(t *testing.T) {
	for n := range 512 {
		w := lay(t, 1, 1)
		call(t, w, 0, mkdir("/a"))
		do(t, w, api.Event{Kind: api.EvPower, Who: 0, K: 1 << 20}, api.OK)
		flow(t, w)
		call(t, w, 0, mkdir("/b"))
		calls := 5 // four blocks and a flush; then the slot
		do(t, w, api.Event{Kind: api.EvPower, Who: 0, K: calls}, api.OK)
		flow(t, w)
		crash(t, w, 0, 2+4*n)
		open(t, w, 0)
		if s := super(t, w, 0); s.Gen != 1 && !(s.Gen == 2 && n >= 105) {
			t.Errorf("%d bytes of the slot: %v", n, s)
		}
		if whole, e := w.Whole(0); e != api.OK || len(whole.Files) != int(super(t, w, 0).Gen)+1 {
			t.Errorf("%d bytes of the slot: %v", n, e)
		}
	}
}

func TestExample9(t *testing.T) {
	w := lay(t, 3, 1)
	for i := range 50 {
		call(t, w, 0, op(api.OpCreate, fmt.Sprint("/", i)))
		flow(t, w)
		want := api.OK
		if i >= 47 {
			want = api.ErrFull
		}
		if d := last(t, w); d.End < 0 || d.Answer.Code != want {
			t.Errorf("%d: %v", i, d.Answer)
		}
	}
	tick(t, w, 0, 1)
	flow(t, w)
	alike(t, "on every node", w, 0, 50, 0, 1, 2)
	for i := range 3 {
		if whole, e := w.Whole(i); e != api.OK || len(whole.Files) != 48 || whole.Seats[0].Answer.Code != api.ErrFull {
			t.Errorf("node %d: %v", i, e)
		}
	}
}

func TestExample10(t *testing.T) {
	w := lay(t, 3, 1)
	crash(t, w, 2)
	for i := range 100 {
		o := op(api.OpCreate, fmt.Sprint("/", i/2))
		if i%2 == 1 {
			o = api.Op{Kind: api.OpTruncate, Path: fmt.Sprint("/", i/2), N: 150}
		}
		call(t, w, 0, o)
		flow(t, w)
	}
	open(t, w, 2)
	tick(t, w, 0, 1)
	fetches, most := 0, 0
	for w.Len() > 0 {
		if m, _ := w.Peek(0); m.Kind == api.MsgFetch {
			fetches, most = fetches+1, max(most, len(m.Hashes))
		}
		do(t, w, api.Event{Kind: api.EvDeliver}, api.OK)
	}
	alike(t, "it has all", w, 0, 100, 0, 1, 2)
	if fetches < 4 || most != 16 {
		t.Errorf("%d times, %d at most", fetches, most)
	}
}
