package replica

import (
	"fmt"
	"math/rand"
	"slices"
	"testing"

	"trireme/api"
	"trireme/commit"
	"trireme/diff"
)

// P23.4
func TestToldWhatIsThere(t *testing.T) {
	l := lay(t, 3)
	l.serve(0, 1, 1, 3)
	for _, kind := range []int{api.MsgPrepare, api.MsgCommit} {
		m := l.told(kind, 0, 1)
		wants(t, "its own Gen", l.take(1, m), l.ok(1, 0))
		m.Gen, m.Head, m.Commit = 1, api.Hash{}, 0
		wants(t, "a Gen below", l.take(1, m), l.ok(1, 0))
		m.From = 2
		wants(t, "not from the Primary", l.take(1, m))
		m.From, m.View = 0, 1
		wants(t, "not from that view's Primary", l.take(1, m))
	}
	l.super("nothing has changed", 1, 0, 0, 3, 3)
	l.elect(1, 1, 2)
	m := l.told(api.MsgCommit, 0, 1)
	m.Gen = 9
	wants(t, "a View below", l.take(1, m), l.take(2, m)...)
	l.super("nothing has changed", 2, 1, 1, 3, 3)
}

// P23.4: what is committed is known as far as this node has it.
func TestToldCommit(t *testing.T) {
	l := lay(t, 3)
	l.run(l.take(0, mkdir(1, 1)), 1)
	l.run(l.take(0, mkdir(1, 2)), 1)
	m := l.told(api.MsgCommit, 0, 1)
	for _, c := range []struct{ told, want uint64 }{{1, 1}, {0, 1}, {1 << 63, 2}, {1, 2}} {
		m.Commit = c.told
		l.take(1, m)
		l.super(fmt.Sprint("told ", c.told), 1, 0, 0, 2, c.want)
	}
	if s := l.nodes[1].Super(); s.Commit != 0 {
		t.Errorf("nothing was saved: %v", s)
	}
}

// P23.4
func TestPrepareIsTaken(t *testing.T) {
	l := lay(t, 3)
	ship := l.take(0, mkdir(1, 1))
	wants(t, "all is there", l.take(2, ship[1]), api.Message{Kind: api.MsgOK, From: 2, To: 0, Gen: 1, Head: l.nodes[0].Super().Head})
	l.super("it is its head", 2, 0, 0, 1, 0)
	wants(t, "twice", l.take(2, ship[1]), l.ok(2, 0))
	slices.Reverse(ship[0].Blocks)
	wants(t, "in any order", l.take(1, ship[0]), l.ok(1, 0))
	l.reopen(1)
	l.super("it lasts", 1, 0, 0, 1, 0)
	l.run([]api.Message{l.ok(1, 0)}, 0)
	ship = l.take(0, mkdir(1, 2))
	wants(t, "with what is committed", l.take(1, ship[0]), l.ok(1, 0))
	l.super("with what is committed", 1, 0, 0, 2, 1)
	if s := l.nodes[1].Super(); s.Commit != 1 || s.Head != l.nodes[0].Super().Head {
		t.Errorf("%v", s)
	}
}

// missing is what a node lacks of what it is told.
func (l *lab) missing(i int, own api.Bag, m api.Message) []api.Hash {
	list, e := diff.Missing(own, m.Head, m.Commit)
	if e != api.OK {
		l.t.Fatal(e)
	}
	return list[:min(len(list), api.MostHashes)]
}

// P23.4: sixteen at a time, again with each Tick, and once all is there it is the head.
func TestFetched(t *testing.T) {
	l := lay(t, 3)
	for n := range uint64(11) {
		file := fmt.Sprintf("/%d", n)
		l.run(l.take(0, request(1, 2*n+1, op(api.OpCreate, file))), 0, 1)
		l.run(l.take(0, request(1, 2*n+2, api.Op{Kind: api.OpTruncate, Path: file, N: 192})), 0, 1)
	}
	l.run(l.tick(0), 0, 1)
	own, most, rounds := l.nodes[2].Bag(), 0, 0
	told := l.told(api.MsgCommit, 0, 2)
	asked := func() api.Message {
		return api.Message{Kind: api.MsgFetch, From: 2, To: 0, Hashes: l.missing(2, own, told)}
	}
	got := l.take(2, told)
	for ; len(l.missing(2, own, told)) > 0; rounds++ {
		wants(t, "asked", got, asked())
		wants(t, "told again", l.take(2, told))
		for range 3 {
			wants(t, "asked with a tick", l.tick(2), asked())
			l.take(2, told) // so that it doesn't fall silent
		}
		wants(t, "junk", l.take(2, api.Message{Kind: api.MsgBlocks, From: 1, Blocks: [][]byte{[]byte("junk"), nil}}))
		most = max(most, len(asked().Hashes))
		blocks := l.take(0, asked())
		l.super("nothing before all is there", 2, 0, 0, 0, 0)
		for i, h := range asked().Hashes {
			own[h] = blocks[0].Blocks[i]
		}
		got = l.take(2, blocks...)
	}
	wants(t, "all is there", got, l.ok(2, 0))
	l.super("all is there", 2, 0, 0, 22, 22)
	wants(t, "nothing more", l.tick(2))
	if most != 16 || rounds < 4 {
		t.Errorf("%d at a time, %d times", most, rounds)
	}
	if got := l.nodes[2].News(); len(got) != 1 || got[0].Head != l.nodes[0].Super().Head {
		t.Errorf("%v", got)
	}
}

// P23.4: the Commit that was told is what is kept from; the greater one is saved, but no more than the Gen.
func TestKeepAndCommit(t *testing.T) {
	for _, c := range []struct {
		told, known uint64
		need, saved uint64 // the eldest record that is needed, and the Commit
	}{{0, 0, 0, 0}, {2, 0, 2, 2}, {3, 1, 3, 3}, {1, 2, 2, 2}, {5, 1, 5, 5}, {9, 1, 5, 5}} {
		l := lay(t, 3)
		var bag api.Bag
		for n := range uint64(5) {
			l.run(l.take(0, mkdir(1, n+1)), 0, 1)
			if n < 2 {
				m := l.told(api.MsgCommit, 0, 2)
				m.Commit = 0
				l.run(l.take(2, m), 0, 2)
			}
			if n == 1 {
				m := l.told(api.MsgCommit, 0, 2)
				m.Commit = c.known
				l.run(l.take(2, m), 0)
				bag = l.nodes[2].Bag()
			}
		}
		all := api.Bag{}
		for h, b := range l.nodes[0].Bag() {
			all[h] = b
		}
		// The other one was told less of what is committed, and keeps all records.
		x := lay(t, 3)
		for n := range uint64(5) {
			for _, m := range x.take(0, mkdir(1, n+1)) {
				for _, b := range m.Blocks {
					all[hashOf(b)] = b
				}
			}
			x.run([]api.Message{{Kind: api.MsgOK, From: 1, Gen: n + 1}}, 0)
		}
		m := l.told(api.MsgCommit, 0, 2)
		m.Commit = c.told
		list, _ := diff.Missing(bag, m.Head, m.Commit)
		for got := l.take(2, m); l.nodes[2].Super().Gen < 5; {
			if len(got) != 1 || got[0].Kind != api.MsgFetch {
				t.Fatalf("%v: %v of %d", c, got, len(list))
			}
			var blocks [][]byte
			for _, h := range got[0].Hashes {
				if r, e := commit.Read(all[h]); e == api.OK && r.Gen < min(c.told, 5) {
					t.Errorf("%v: the record of Gen %d is asked for", c, r.Gen)
				}
				blocks = append(blocks, all[h])
			}
			got = l.take(2, api.Message{Kind: api.MsgBlocks, From: 0, Blocks: blocks})
		}
		if s := l.nodes[2].Super(); s.Commit != c.saved || l.nodes[2].Commit() != c.saved {
			t.Errorf("%v: %v, %d", c, s, l.nodes[2].Commit())
		}
		l.super("", 2, 0, 0, 5, c.saved)
	}
}

// P23.4: which aim is taken.
func TestAims(t *testing.T) {
	l := lay(t, 3)
	told := func(view, gen uint64, head byte) api.Message {
		return api.Message{Kind: api.MsgCommit, From: int(view % 3), To: 2, View: view, Gen: gen, Head: api.Hash{head}}
	}
	asks := func(view uint64, head byte) api.Message {
		return api.Message{Kind: api.MsgFetch, From: 2, To: int(view % 3), Hashes: []api.Hash{{head}}}
	}
	wants(t, "the first one", l.take(2, told(0, 5, 1)), asks(0, 1))
	wants(t, "a lesser Gen", l.take(2, told(0, 4, 2)))
	wants(t, "the same Gen", l.take(2, told(0, 5, 2)))
	wants(t, "with a tick", l.tick(2), asks(0, 1))
	wants(t, "a greater Gen", l.take(2, told(0, 6, 3)), asks(0, 3))
	wants(t, "a later View", l.take(2, told(4, 2, 4)), asks(4, 4))
	wants(t, "a View between", l.take(2, told(3, 9, 5)))
	wants(t, "the elder View", l.take(2, told(0, 9, 5)))
	wants(t, "with a tick", l.tick(2), asks(4, 4))
	l.super("its View is as it was", 2, 0, 0, 0, 0)
	wants(t, "it goes on to the aim's View", l.take(2, api.Message{Kind: api.MsgViewChange, From: 0, View: 4}), l.plea(2, 0), l.plea(2, 1))
	wants(t, "the aim stays", l.tick(2), l.plea(2, 0), l.plea(2, 1), asks(4, 4))
	wants(t, "it goes on to a later one", l.take(2, api.Message{Kind: api.MsgViewChange, From: 0, View: 6}), l.plea(2, 0), l.plea(2, 1))
	wants(t, "the aim is gone", l.tick(2), l.plea(2, 0), l.plea(2, 1))
	wants(t, "its View is below", l.take(2, told(4, 9, 9)))
}

// P23.4: a leader's word of a later View: what isn't in its history is rolled back.
func TestRolledBack(t *testing.T) {
	l := lay(t, 3)
	l.serve(0, 1, 1, 2)
	l.take(0, mkdir(2, 1))
	l.take(0, mkdir(2, 2))
	l.super("made alone", 0, 0, 0, 4, 2)
	l.elect(1, 1, 2)
	l.run(l.take(1, mkdir(3, 1)), 1, 2)
	m := l.told(api.MsgCommit, 1, 0)
	got := l.take(0, m)
	wants(t, "it asks the new leader", got, api.Message{Kind: api.MsgFetch, From: 0, To: 1, Hashes: []api.Hash{m.Head}})
	l.super("until all is there it is as it was", 0, 0, 0, 4, 2)
	l.run(got, 0, 1)
	l.super("rolled back", 0, 1, 1, 3, 3)
	if l.nodes[0].Super().Head != l.nodes[1].Super().Head {
		t.Error("another head")
	}
	wants(t, "it follows", l.take(0, mkdir(2, 2)), func() api.Message { m := mkdir(2, 2); m.To = 1; return m }())
}

// P23.4: what is known to be committed isn't given up.
func TestBelowCommitted(t *testing.T) {
	l := lay(t, 3)
	l.serve(0, 1, 1, 3)
	head, _ := commit.Begin()
	wants(t, "a Gen below", l.take(2, api.Message{Kind: api.MsgCommit, From: 1, View: 1, Gen: 2, Head: head}))
	wants(t, "no aim", l.tick(2))
	wants(t, "the same Gen", l.take(2, api.Message{Kind: api.MsgCommit, From: 1, View: 1, Gen: 3, Head: api.Hash{1}}), api.Message{Kind: api.MsgFetch, From: 2, To: 1, Hashes: []api.Hash{{1}}})
	l.super("as it was", 2, 0, 0, 3, 3)
}

// P23.4: a head with a Gen that is below by now.
func TestPassedOverSince(t *testing.T) {
	l := lay(t, 3)
	l.run(l.take(0, mkdir(1, 1)), 1, 2)
	l.run(l.take(0, mkdir(1, 2)), 1, 2)
	x := lay(t, 3)
	x.elect(1, 1, 2)
	ship := x.take(1, mkdir(2, 1))[1]
	blocks := api.Message{Kind: api.MsgBlocks, From: 1, Blocks: ship.Blocks}
	ship.Blocks = nil
	l.take(2, ship)
	m := l.told(api.MsgCommit, 0, 2)
	m.Commit = 2
	l.take(2, m)
	wants(t, "passed over", l.take(2, blocks))
	l.super("as it was", 2, 0, 0, 2, 2)
	wants(t, "the aim is gone", l.tick(2))
}

// P23.4: a head whose record has another Gen than was told isn't made the head.
func TestLyingGen(t *testing.T) {
	l := lay(t, 3)
	ship := l.take(0, mkdir(1, 1))[1]
	ship.Gen = 2
	wants(t, "another Gen", l.take(2, ship))
	l.super("as it was", 2, 0, 0, 0, 0)
	ship.Gen = 1
	wants(t, "the right one", l.take(2, ship), api.Message{Kind: api.MsgOK, From: 2, To: 0, Gen: 1, Head: ship.Head})
}

// P23.9: whatever becomes of open writes, what was told lasts; View and Commit never fall.
func TestWhatIsToldLasts(t *testing.T) {
	for seed := range int64(40) {
		rnd := rand.New(rand.NewSource(seed))
		l := lay(t, []int{3, 3, 5, 7}[seed%4])
		w := &watch{told: make([]api.Super, len(l.nodes)), known: make([]api.Super, len(l.nodes))}
		var way []api.Message
		number := uint64(0)
		for range 500 {
			i := rnd.Intn(len(l.nodes))
			switch n := rnd.Intn(100); {
			case n < 4:
				number++
				way = append(way, l.take(i, mkdir(rnd.Intn(4), number))...)
			case n < 14:
				way = append(way, l.tick(i)...)
			case n < 17:
				l.disks[i].Limit(rnd.Intn(25))
			case n < 20 && len(way) > 0:
				way = append(way, way[rnd.Intn(len(way))])
			case n < 22 || l.nodes[i].Down():
				fates := make([]int, 40)
				for k := range fates {
					fates[k] = rnd.Intn(1 << 16)
				}
				l.reopen(i, fates...)
				w.opened(t, i, l.nodes[i])
			case len(way) > 0:
				k := rnd.Intn(len(way))
				m := way[k]
				way = slices.Delete(way, k, k+1)
				if m.To < len(l.nodes) && rnd.Intn(20) > 0 {
					i = m.To
					way = append(way, l.take(i, m)...)
				}
			}
			for _, m := range way {
				w.heard(m)
			}
			w.look(t, i, l.nodes[i])
		}
	}
}

// watch has what nodes told, and what they were.
type watch struct {
	told  []api.Super // View, Normal and Gen that must last; Commit as Super had it
	known []api.Super // View, and Commit as it was known, since it was opened
}

func (w *watch) heard(m api.Message) {
	if m.From >= len(w.told) {
		return
	}
	s := &w.told[m.From]
	if m.Kind == api.MsgOK && (m.View > s.Normal || m.View == s.Normal && m.Gen > s.Gen) {
		s.Normal, s.Gen = m.View, m.Gen
	}
	if m.Kind == api.MsgOK || m.Kind == api.MsgViewChange {
		s.View = max(s.View, m.View)
	}
}

// opened: what was told is there.
func (w *watch) opened(t *testing.T, i int, r *Replica) {
	t.Helper()
	s := r.Super()
	if s.View < w.told[i].View || s.Normal < w.told[i].Normal || s.Normal == w.told[i].Normal && s.Gen < w.told[i].Gen || s.Commit < w.told[i].Commit {
		t.Fatalf("node %d told %v, and has %v", i, w.told[i], s)
	}
	w.known[i] = api.Super{View: s.View, Commit: r.Commit()}
}

func (w *watch) look(t *testing.T, i int, r *Replica) {
	t.Helper()
	s := r.Super()
	if s.View < w.known[i].View || r.Commit() < w.known[i].Commit || r.Commit() < s.Commit || r.Commit() > s.Gen {
		t.Fatalf("node %d: %v, %d known, and was %v", i, s, r.Commit(), w.known[i])
	}
	w.known[i] = api.Super{View: s.View, Commit: r.Commit()}
	w.told[i].Commit = max(w.told[i].Commit, s.Commit)
	for _, k := range r.News() {
		if k.Gen > r.Commit() {
			t.Fatalf("node %d: news of %d, %d known", i, k.Gen, r.Commit())
		}
	}
}
