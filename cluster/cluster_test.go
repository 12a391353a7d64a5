package cluster

import (
	"fmt"
	"reflect"
	"testing"

	"trireme/api"
	"trireme/commit"
	"trireme/table"
)

func lay(t *testing.T, nodes, clients int) *World {
	t.Helper()
	w, e := New(nodes, clients)
	if w == nil || e != api.OK {
		t.Fatal(e)
	}
	return w
}

func op(kind int, path string) api.Op { return api.Op{Kind: kind, Path: path} }

func mkdir(path string) api.Op { return op(api.OpMkdir, path) }

func do(t *testing.T, w *World, e api.Event, want api.Errno) {
	t.Helper()
	if got := w.Do(e); got != want {
		t.Errorf("%v: %v, not %v", e, got, want)
	}
}

func call(t *testing.T, w *World, who int, o api.Op) {
	t.Helper()
	do(t, w, api.Event{Kind: api.EvCall, Who: who, Op: o}, api.OK)
}

func tick(t *testing.T, w *World, who, times int) {
	t.Helper()
	for range times {
		do(t, w, api.Event{Kind: api.EvTick, Who: who}, api.OK)
	}
}

// flow delivers all that is under way, and what comes meanwhile.
func flow(t *testing.T, w *World) {
	t.Helper()
	for n := 0; w.Len() > 0; n++ {
		if n > 10000 {
			t.Fatal("messages without an end")
		}
		do(t, w, api.Event{Kind: api.EvDeliver}, api.OK)
	}
}

func drop(t *testing.T, w *World) {
	t.Helper()
	for w.Len() > 0 {
		do(t, w, api.Event{Kind: api.EvDrop}, api.OK)
	}
}

func crash(t *testing.T, w *World, who int, fates ...int) {
	t.Helper()
	do(t, w, api.Event{Kind: api.EvCrash, Who: who, Fates: fates}, api.OK)
}

func open(t *testing.T, w *World, who int) {
	t.Helper()
	do(t, w, api.Event{Kind: api.EvOpen, Who: who}, api.OK)
}

func super(t *testing.T, w *World, node int) api.Super {
	t.Helper()
	s, ok := w.Super(node)
	if !ok {
		t.Fatalf("node %d is off", node)
	}
	return s
}

// alike: all these nodes have one head, of this Gen, in this View.
func alike(t *testing.T, what string, w *World, view, gen uint64, nodes ...int) {
	t.Helper()
	first := super(t, w, nodes[0])
	for _, i := range nodes {
		s := super(t, w, i)
		if s.View != view || s.Normal != view || s.Gen != gen || s.Head != first.Head {
			t.Errorf("%s: node %d: %v", what, i, s)
		}
	}
}

// last gives what became of the last call.
func last(t *testing.T, w *World) api.Done {
	t.Helper()
	list := w.Calls()
	if len(list) == 0 {
		t.Fatal("no calls")
	}
	return list[len(list)-1]
}

// P26.1
func TestNew(t *testing.T) {
	for _, c := range [][2]int{{-1, 1}, {0, 1}, {2, 1}, {4, 1}, {6, 1}, {8, 1}, {9, 1}, {1 << 62, 1}, {3, 0}, {3, -1}, {3, 5}, {3, 1 << 62}, {-1 << 63, -1 << 63}} {
		if w, e := New(c[0], c[1]); w != nil || e != api.ErrConfig {
			t.Errorf("New of %v: %v", c, e)
		}
	}
	head, _ := commit.Begin()
	for _, nodes := range []int{1, 3, 5, 7} {
		for clients := 1; clients <= 4; clients++ {
			w := lay(t, nodes, clients)
			for i := range nodes {
				if s := super(t, w, i); s != (api.Super{Seq: 1, Head: head}) || w.Commit(i) != 0 {
					t.Errorf("%v", s)
				}
				if whole, e := w.Whole(i); e != api.OK || fmt.Sprint(whole) != fmt.Sprint(table.New()) {
					t.Errorf("%v, %v", whole, e)
				}
			}
			if _, ok := w.Super(nodes); ok {
				t.Error("a node too many")
			}
			do(t, w, api.Event{Kind: api.EvAsk, Who: clients - 1}, api.OK)
			do(t, w, api.Event{Kind: api.EvAsk, Who: clients}, api.ErrStep)
			if r, ok := w.Record(head); !ok || r.Gen != 0 || w.Len() != 0 || len(w.Calls()) != 0 || len(w.Sights()) != 0 || w.Clash() {
				t.Error("something has happened")
			}
		}
	}
}

// P26, "A world": each node's disk has 400 sectors.
func TestDisks(t *testing.T) {
	for _, m := range lay(t, 3, 1).machines {
		if m.disk.Sectors() != 400 {
			t.Errorf("%d sectors", m.disk.Sectors())
		}
	}
}

// P26.3: two blocks with one digest can't be made by hand, but one may be planted among those that were kept.
func TestClash(t *testing.T) {
	w := lay(t, 3, 1)
	r, _ := w.Record(super(t, w, 0).Head)
	call(t, w, 0, mkdir("/a"))
	flow(t, w)
	if w.Clash() {
		t.Error("no Clash")
	}
	w.blocks[r.Snaps] = []byte("another text")
	call(t, w, 0, mkdir("/b"))
	flow(t, w)
	if !w.Clash() {
		t.Error("two texts have one digest")
	}
	w.blocks[r.Snaps] = []byte("T\x00\x00")
	call(t, w, 0, mkdir("/c"))
	flow(t, w)
	if !w.Clash() {
		t.Error("it was so behind some event")
	}
}

// P26.2: what is refused, is an event, too, and changes nothing else.
func TestRefused(t *testing.T) {
	w := lay(t, 3, 2)
	call(t, w, 1, mkdir("/a"))
	crash(t, w, 2)
	before := fmt.Sprint(w.Len(), w.Calls(), w.Sights(), super(t, w, 0), super(t, w, 1))
	n := 0
	refused := func(e api.Event, want api.Errno) {
		t.Helper()
		do(t, w, e, want)
		n++
	}
	far := []int{-1 << 63, -1, 1<<63 - 1}
	for _, who := range append(far, 2, 3, 100) {
		refused(api.Event{Kind: api.EvCall, Who: who, Op: mkdir("/b")}, api.ErrStep)
		refused(api.Event{Kind: api.EvAsk, Who: who}, api.ErrStep)
		refused(api.Event{Kind: api.EvTick, Who: who}, api.ErrStep)
		refused(api.Event{Kind: api.EvPower, Who: who, K: 3}, api.ErrStep)
		if who != 2 {
			refused(api.Event{Kind: api.EvCrash, Who: who}, api.ErrStep)
			refused(api.Event{Kind: api.EvOpen, Who: who}, api.ErrStep)
		}
		if who != 2 {
			refused(api.Event{Kind: api.EvDeliver, K: who}, api.ErrStep)
			refused(api.Event{Kind: api.EvDrop, K: who}, api.ErrStep)
			refused(api.Event{Kind: api.EvCopy, K: who}, api.ErrStep)
		}
	}
	refused(api.Event{Kind: api.EvCall, Who: 1, Op: mkdir("/b")}, api.ErrStep)
	refused(api.Event{Kind: api.EvCall, Who: 1}, api.ErrStep)
	refused(api.Event{Kind: api.EvCall, Who: 0}, api.ErrArg)
	refused(api.Event{Kind: api.EvOpen, Who: 0}, api.ErrStep)
	for _, kind := range append(far, 0, 10) {
		refused(api.Event{Kind: kind}, api.ErrStep)
	}
	if got := fmt.Sprint(w.Len(), w.Calls(), w.Sights(), super(t, w, 0), super(t, w, 1)); got != before {
		t.Errorf("something has changed: %s", got)
	}
	call(t, w, 0, mkdir("/b"))
	if d := last(t, w); d.Start != n+2 {
		t.Errorf("%v, not event %d", d, n+2)
	}
}

// P26.2, P26.3, the chapter's example
func TestSingle(t *testing.T) {
	w := lay(t, 1, 1)
	call(t, w, 0, op(api.OpCreate, "/a"))
	want := api.Done{Call: api.Call{Client: 0, Number: 1, Op: op(api.OpCreate, "/a")}, Start: 0, End: -1}
	if got := w.Calls(); len(got) != 1 || fmt.Sprint(got[0]) != fmt.Sprint(want) {
		t.Errorf("%v", got)
	}
	do(t, w, api.Event{Kind: api.EvDeliver}, api.OK)
	s := super(t, w, 0)
	if got := w.Sights(); len(got) != 1 || got[0] != (api.Sight{Node: 0, At: 1, Known: api.Known{Gen: 1, Head: s.Head}}) || w.Commit(0) != 1 {
		t.Errorf("%v", got)
	}
	if m, ok := w.Peek(0); !ok || m.Kind != api.MsgReply || m.To != 100 || w.Len() != 1 {
		t.Errorf("%v", m)
	}
	do(t, w, api.Event{Kind: api.EvDeliver}, api.OK)
	want.End = 2
	if got := w.Calls(); len(got) != 1 || fmt.Sprint(got[0]) != fmt.Sprint(want) {
		t.Errorf("%v", got)
	}
	if r, ok := w.Record(s.Head); !ok || r.Gen != 1 || r.Call.Op.Path != "/a" {
		t.Errorf("%v", r)
	}
	if r, ok := w.Record(api.Hash{1}); ok || !reflect.DeepEqual(r, api.Record{}) {
		t.Errorf("%v", r)
	}
}

// P26.2
func TestCallAndAsk(t *testing.T) {
	w := lay(t, 3, 3)
	call(t, w, 2, mkdir("/a"))
	do(t, w, api.Event{Kind: api.EvAsk, Who: 1}, api.OK)
	do(t, w, api.Event{Kind: api.EvAsk, Who: 2}, api.OK)
	if w.Len() != 6 {
		t.Errorf("%d under way", w.Len())
	}
	for k := range 6 {
		if m, ok := w.Peek(k); !ok || m.Kind != api.MsgRequest || m.From != 102 || m.To != k%3 || m.Call.Number != 1 {
			t.Errorf("%v", m)
		}
	}
	do(t, w, api.Event{Kind: api.EvCopy, K: 1}, api.OK)
	do(t, w, api.Event{Kind: api.EvDrop, K: 0}, api.OK)
	if m, ok := w.Peek(5); !ok || m.To != 1 || w.Len() != 6 {
		t.Errorf("%v", m)
	}
	if m, ok := w.Peek(0); !ok || m.To != 1 {
		t.Errorf("%v", m)
	}
}

// P26.2: messages to nobody, and to nodes that are off, are lost.
func TestLost(t *testing.T) {
	w := lay(t, 3, 1)
	crash(t, w, 1)
	for _, to := range []int{1, 3, 7, 99, 101, 255} {
		w.Send(api.Message{Kind: api.MsgOK, To: to})
		do(t, w, api.Event{Kind: api.EvDeliver}, api.OK)
		if w.Len() != 0 {
			t.Errorf("to %d: something came of it", to)
		}
	}
}

// P26.2
func TestPowerCrashOpen(t *testing.T) {
	w := lay(t, 3, 1)
	do(t, w, api.Event{Kind: api.EvOpen, Who: 0}, api.ErrStep)
	do(t, w, api.Event{Kind: api.EvPower, Who: 0, K: 2}, api.OK)
	call(t, w, 0, mkdir("/a"))
	do(t, w, api.Event{Kind: api.EvDeliver}, api.OK)
	if s, ok := w.Super(0); ok || s != (api.Super{}) || w.Commit(0) != 0 {
		t.Errorf("it is off: %v", s)
	}
	if whole, e := w.Whole(0); e != api.ErrStep || !reflect.DeepEqual(whole, api.Whole{}) {
		t.Errorf("it is off: %v", e)
	}
	for _, kind := range []int{api.EvTick, api.EvPower, api.EvOpen} {
		do(t, w, api.Event{Kind: kind, Who: 0}, api.ErrStep)
	}
	crash(t, w, 0, 1, 1, 1)
	crash(t, w, 0)
	open(t, w, 0)
	do(t, w, api.Event{Kind: api.EvOpen, Who: 0}, api.ErrStep)
	if s := super(t, w, 0); s.Gen != 0 {
		t.Errorf("%v", s)
	}
	do(t, w, api.Event{Kind: api.EvPower, Who: 0, K: 0}, api.OK)
	do(t, w, api.Event{Kind: api.EvPower, Who: 0, K: -1}, api.OK)
	do(t, w, api.Event{Kind: api.EvAsk, Who: 0}, api.OK)
	flow(t, w)
	if d := last(t, w); d.End < 0 || d.Answer.Code != api.OK {
		t.Errorf("%v", d)
	}
	crash(t, w, 0)
	if _, ok := w.Super(0); ok {
		t.Error("a crash takes one that is up, too")
	}
	open(t, w, 0)
	if s := super(t, w, 0); s.Gen != 1 {
		t.Errorf("%v", s)
	}
}

// P26.2, P26.3: what a step that wasn't answered has saved may be a head behind a crash.
func TestSavedAndDown(t *testing.T) {
	for calls := 0; ; calls++ {
		x := lay(t, 1, 1)
		call(t, x, 0, mkdir("/a"))
		do(t, x, api.Event{Kind: api.EvPower, Who: 0, K: calls}, api.OK)
		do(t, x, api.Event{Kind: api.EvDeliver}, api.OK)
		if _, ok := x.Super(0); ok {
			break
		}
		fates := make([]int, 20)
		for i := range fates {
			fates[i] = 1
		}
		crash(t, x, 0, fates...)
		open(t, x, 0)
		s := super(t, x, 0)
		if r, ok := x.Record(s.Head); !ok || r.Gen != s.Gen {
			t.Errorf("%d calls: no record of Gen %d", calls, s.Gen)
		}
		do(t, x, api.Event{Kind: api.EvAsk}, api.OK)
		flow(t, x)
		if d := last(t, x); d.End < 0 || super(t, x, 0).Gen != 1 {
			t.Errorf("%d calls: %v", calls, d)
		}
	}
}

// P26.2: the messages of a step that brings a node down are sent.
func TestMessagesOfTheLastStep(t *testing.T) {
	w := lay(t, 3, 1)
	do(t, w, api.Event{Kind: api.EvPower, Who: 1, K: 3}, api.OK)
	w.Send(api.Message{Kind: api.MsgViewChange, From: 0, To: 1, View: 4})
	do(t, w, api.Event{Kind: api.EvDeliver}, api.OK)
	if _, ok := w.Super(1); ok || w.Len() != 2 {
		t.Errorf("%d under way, up %t", w.Len(), ok)
	}
	if m, _ := w.Peek(0); m.Kind != api.MsgViewChange || m.View != 4 || m.From != 1 {
		t.Errorf("%v", m)
	}
}

// P26.2: what the net doesn't take is lost.
func TestFullNet(t *testing.T) {
	w := lay(t, 3, 1)
	call(t, w, 0, mkdir("/a"))
	for w.Len() < 4000 {
		do(t, w, api.Event{Kind: api.EvCopy}, api.OK)
	}
	do(t, w, api.Event{Kind: api.EvCopy}, api.ErrStep)
	do(t, w, api.Event{Kind: api.EvAsk}, api.OK)
	tick(t, w, 0, 1)
	if w.Len() != 4000 {
		t.Errorf("%d under way", w.Len())
	}
}

// P26.3
func TestSights(t *testing.T) {
	w := lay(t, 3, 1)
	call(t, w, 0, mkdir("/a"))
	flow(t, w)
	head := super(t, w, 0).Head
	if got := w.Sights(); len(got) != 1 || got[0].Node != 0 || got[0].Known != (api.Known{Gen: 1, Head: head}) || got[0].At < 3 {
		t.Errorf("%v", got)
	}
	at := w.Sights()[0].At
	tick(t, w, 0, 1)
	flow(t, w)
	got := w.Sights()
	if len(got) != 3 || got[0].At != at || got[1].Node != 1 || got[2].Node != 2 || got[1].At >= got[2].At || got[1].Known.Head != head {
		t.Errorf("%v", got)
	}
	for i := range 3 {
		if w.Commit(i) != 1 {
			t.Errorf("node %d", i)
		}
	}
}

// P26.8
func TestNothingShared(t *testing.T) {
	w := lay(t, 1, 1)
	o := api.Op{Kind: api.OpWrite, Path: "/a", Data: []byte("xyz")}
	call(t, w, 0, op(api.OpCreate, "/a"))
	flow(t, w)
	call(t, w, 0, o)
	o.Data[0] = '!'
	flow(t, w)
	call(t, w, 0, api.Op{Kind: api.OpRead, Path: "/a", N: 9})
	flow(t, w)
	show := func() string {
		whole, _ := w.Whole(0)
		r, _ := w.Record(super(t, w, 0).Head)
		p, _ := w.Record(r.Parent)
		return fmt.Sprint(w.Calls(), w.Sights(), whole, r, p)
	}
	before := show()
	if d := last(t, w); string(d.Answer.Data) != "xyz" {
		t.Errorf("%v", d)
	}
	calls, sights := w.Calls(), w.Sights()
	calls[1].Call.Op.Data[0], calls[2].Answer.Data[0] = '!', '!'
	calls[0], sights[0] = api.Done{}, api.Sight{}
	whole, _ := w.Whole(0)
	whole.Files[0].Value[0] = '!'
	r, _ := w.Record(super(t, w, 0).Head)
	p, _ := w.Record(r.Parent)
	p.Call.Op.Data[0] = '!'
	fates := []int{1, 2}
	crash(t, w, 0, fates...)
	open(t, w, 0)
	if show() != before || fates[1] != 2 {
		t.Error("something is shared")
	}
}
