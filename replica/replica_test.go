package replica

import (
	"fmt"
	"slices"
	"testing"

	"trireme/api"
	"trireme/commit"
	"trireme/disk"
	"trireme/group"
	"trireme/order"
	"trireme/shape"
)

// P23.1
func TestNewAndOpen(t *testing.T) {
	for _, nodes := range []int{-1 << 63, -1, 0, 2, 4, 6, 8, 9, 1<<63 - 1} {
		for _, me := range []int{0, -1} {
			d, _ := disk.New(5)
			if r, e := New(d, me, nodes); r != nil || e != api.ErrConfig {
				t.Errorf("New of %d: %v", nodes, e)
			}
			if r, e := Open(d, me, nodes); r != nil || e != api.ErrConfig {
				t.Errorf("Open of %d: %v", nodes, e)
			}
		}
	}
	for _, nodes := range []int{1, 3, 5, 7} {
		for _, me := range []int{-1 << 63, -1, nodes, nodes + 1, 1<<63 - 1} {
			d, _ := disk.New(50)
			if r, e := New(d, me, nodes); r != nil || e != api.ErrConfig {
				t.Errorf("New of %d, %d: %v", me, nodes, e)
			}
		}
		for _, me := range []int{0, nodes - 1} {
			small, _ := disk.New(5)
			if r, e := New(small, me, nodes); r != nil || e != api.ErrArg {
				t.Errorf("New on a small disk: %v", e)
			}
			d, _ := disk.New(50)
			if r, e := Open(d, me, nodes); r != nil || e != api.ErrSuper {
				t.Errorf("Open of an empty disk: %v", e)
			}
			r, e := New(d, me, nodes)
			if e != api.OK {
				t.Fatal(e)
			}
			head, bag := commit.Begin()
			if r.Super() != (api.Super{Seq: 1, Head: head}) || r.Commit() != 0 || r.Down() || fmt.Sprint(r.Bag()) != fmt.Sprint(bag) || len(r.Out()) != 0 || len(r.News()) != 0 {
				t.Errorf("%v", r.Super())
			}
			d.Limit(0)
			d.Flush()
			if r, e := Open(d, me, nodes); r != nil || e != api.ErrDown {
				t.Errorf("Open of a disk that is down: %v", e)
			}
		}
	}
}

// P23.1: a node begins with its Super's Commit, and tells no news of that.
func TestOpenBegins(t *testing.T) {
	l := lay(t, 3)
	l.serve(0, 1, 1, 4)
	for i := range l.nodes {
		before := l.nodes[i].Super()
		l.reopen(i)
		if l.nodes[i].Super() != before || l.nodes[i].Commit() != before.Commit || len(l.nodes[i].News()) != 0 || before.Commit >= before.Gen {
			t.Errorf("%v, %d", before, l.nodes[i].Commit())
		}
	}
}

// P23.1: whose disk has answered ErrDown, is down, and does nothing any more.
func TestDown(t *testing.T) {
	l := lay(t, 3)
	l.disks[0].Limit(2)
	wants(t, "it doesn't last", l.take(0, mkdir(1, 1)))
	l.super("as it was", 0, 0, 0, 0, 0)
	if !l.nodes[0].Down() {
		t.Error("not down")
	}
	for range 6 {
		wants(t, "down", l.tick(0))
	}
	wants(t, "down", l.take(0, mkdir(1, 1), mkdir(2, 1)))
	fetch := api.Message{Kind: api.MsgFetch, From: 1, Hashes: []api.Hash{l.nodes[0].Super().Head}}
	wants(t, "down", l.take(0, fetch))
	wants(t, "up", l.take(2, fetch), api.Message{Kind: api.MsgBlocks, From: 2, To: 1, Blocks: [][]byte{l.nodes[2].Bag()[l.nodes[2].Super().Head]}})

	l.disks[1].Limit(0)
	for range 3 {
		l.tick(1)
	}
	if l.nodes[1].Down() {
		t.Error("its disk wasn't asked")
	}
	wants(t, "a view that doesn't last", l.tick(1))
	if !l.nodes[1].Down() || l.nodes[1].Super().View != 0 {
		t.Error("not down")
	}
	l.disks[2].Limit(1)
	wants(t, "a view that doesn't last", l.take(2, api.Message{Kind: api.MsgViewChange, From: 1, View: 4}))
	wants(t, "down", l.tick(2))
}

// P23.3
func TestPrepare(t *testing.T) {
	l := lay(t, 5)
	l.serve(0, 1, 1, 2)
	l.run(l.take(0, mkdir(2, 1)), 0, 1) // two of five have it: not committed
	before := l.nodes[0]
	s, bag := before.Super(), before.Bag()
	head, more, _, _ := commit.Next(bag, s.Head, 0, mkdir(3, 1).Call)
	got := l.take(0, mkdir(3, 1))
	var want []api.Message
	for to := 1; to < 5; to++ {
		m := api.Message{Kind: api.MsgPrepare, From: 0, To: to, View: 0, Gen: 4, Commit: 2, Head: head}
		for _, h := range order.Hashes(more) {
			m.Blocks = append(m.Blocks, more[h])
		}
		want = append(want, m)
	}
	wants(t, "a new generation", got, want...)
	l.super("the leader", 0, 0, 0, 4, 2)
	if s := l.nodes[0].Super(); s.Head != head || s.Commit != 2 {
		t.Errorf("%v", s)
	}
	l.reopen(0)
	l.super("it lasts", 0, 0, 0, 4, 2)
}

// P23.3, P23.2
func TestHandedOn(t *testing.T) {
	l := lay(t, 3)
	m := mkdir(1, 1)
	m.To, m.From, m.View = 2, 203, 77
	want := m
	want.To = 0
	wants(t, "handed on as it is", l.take(2, m), want)
	for _, from := range []int{0, 1, 2, 3, 99} {
		m.From = from
		wants(t, "not from a client", l.take(2, m))
		wants(t, "not from a client", l.take(0, m))
	}
	l.elect(1, 1, 2)
	m.From, want.From, want.To = 100, 100, 1
	wants(t, "to the one that leads now", l.take(2, m), want)
	m.From = 255
	if got := l.take(1, m); len(got) != 2 || got[0].Kind != api.MsgPrepare {
		t.Errorf("whoever brings it: %v", got)
	}
	l.take(2, api.Message{Kind: api.MsgViewChange, From: 0, View: 3})
	wants(t, "not normal", l.take(2, mkdir(1, 1)))

	l = lay(t, 5)
	l.take(1, api.Message{Kind: api.MsgViewChange, From: 0, View: 6})
	l.super("two of five have come", 1, 6, 0, 0, 0)
	wants(t, "the view's, but it doesn't lead yet", l.take(1, mkdir(2, 1)))
}

// P23.3
func TestAgainAndStale(t *testing.T) {
	l := lay(t, 3)
	ship := l.take(0, request(1, 5, op(api.OpStat, "/")))
	wants(t, "again, not committed", l.take(0, request(1, 5, op(api.OpStat, "/"))))
	reply := api.Message{Kind: api.MsgReply, From: 0, To: 101, Call: api.Call{Client: 1, Number: 5}, Answer: api.Answer{Data: []byte("d")}}
	wants(t, "committed", l.run(ship, 0, 1), reply)
	wants(t, "again", l.take(0, request(1, 5, op(api.OpMkdir, "/x"))), reply)
	wants(t, "stale", l.take(0, request(1, 4, op(api.OpMkdir, "/x"))))
	l.super("nothing is done twice", 0, 0, 0, 1, 1)
	ship = l.take(0, mkdir(2, 5))
	wants(t, "again, with another client's of that number on its way", l.take(0, request(1, 5, op(api.OpStat, "/"))), reply)
	l.take(0, request(1, 6, op(api.OpRemove, "/x")))
	wants(t, "stale by one that isn't committed", l.take(0, request(1, 5, op(api.OpStat, "/"))))
	wants(t, "not committed yet", l.take(0, request(1, 6, op(api.OpRemove, "/x"))))
	l.run(ship, 0, 1)
	l.super("two of three", 0, 0, 0, 3, 2)
	wants(t, "not committed yet", l.take(0, request(1, 6, op(api.OpRemove, "/x"))))
	reply = api.Message{Kind: api.MsgReply, From: 0, To: 101, Call: api.Call{Client: 1, Number: 6}, Answer: api.Answer{Code: api.ErrNotFound}}
	wants(t, "committed by a tick", l.run(l.tick(0), 0, 1), reply)
}

// P23.3: no more than three generations that aren't known to be committed.
func TestWindow(t *testing.T) {
	l := lay(t, 3)
	var last []api.Message
	for n := range uint64(3) {
		last = l.take(0, mkdir(1, n+1))
		if len(last) != 2 {
			t.Fatalf("call %d: %v", n, last)
		}
	}
	wants(t, "the fourth one", l.take(0, mkdir(1, 4)))
	wants(t, "of another client", l.take(0, mkdir(2, 1)))
	l.super("three", 0, 0, 0, 3, 0)
	got := l.run(last, 0, 2)
	var want []api.Message
	for n := range uint64(3) {
		want = append(want, api.Message{Kind: api.MsgReply, From: 0, To: 101, Call: api.Call{Client: 1, Number: n + 1}})
	}
	wants(t, "all of them are answered, in their order", got, want...)
	if got := l.take(0, mkdir(1, 4)); len(got) != 2 {
		t.Errorf("%v", got)
	}
}

// P23.3: who was opened since, or is in another view, tells the client only when it asks again.
func TestWhoAnswers(t *testing.T) {
	l := lay(t, 3)
	l.take(0, mkdir(1, 1))
	l.reopen(0)
	wants(t, "opened anew", l.run(l.tick(0), 0, 1))
	l.super("it is committed", 0, 0, 0, 1, 1)
	reply := api.Message{Kind: api.MsgReply, From: 0, To: 101, Call: api.Call{Client: 1, Number: 1}}
	wants(t, "asked again", l.take(0, mkdir(1, 1)), reply)

	l.take(0, mkdir(1, 2))
	wants(t, "in view 3", l.run(l.take(0, api.Message{Kind: api.MsgViewChange, From: 1, View: 3}), 0, 1))
	l.super("it leads again", 0, 3, 3, 2, 2)
	reply.Call.Number = 2
	wants(t, "asked again", l.take(0, mkdir(1, 2)), reply)
}

// P23.3: a single node.
func TestSingle(t *testing.T) {
	l := lay(t, 1)
	for n := range uint64(5) {
		wants(t, "answered at once", l.take(0, mkdir(1, n+1)), api.Message{Kind: api.MsgReply, From: 0, To: 101, Call: api.Call{Client: 1, Number: n + 1}})
		l.super("alone", 0, 0, 0, n+1, n+1)
	}
	news := l.nodes[0].News()
	if len(news) != 5 || news[4] != (api.Known{Gen: 5, Head: l.nodes[0].Super().Head}) {
		t.Errorf("%v", news)
	}
	l.reopen(0)
	l.super("what lasted of what it knew", 0, 0, 0, 5, 4)
	wants(t, "asked again", l.take(0, mkdir(1, 5)), api.Message{Kind: api.MsgReply, From: 0, To: 101, Call: api.Call{Client: 1, Number: 5}})
	l.reopen(0)
	wants(t, "a tick has nobody to be told", l.tick(0))
	l.super("counted", 0, 0, 0, 5, 5)
	for range 9 {
		l.tick(0)
	}
	l.super("it goes on leading", 0, 0, 0, 5, 5)
}

// P23.3: without room on its disk a call is passed over.
func TestNoRoom(t *testing.T) {
	d, _ := disk.New(6)
	r, _ := New(d, 0, 1)
	r.Take(mkdir(1, 1))
	if len(r.Out()) != 0 || r.Down() || r.Super().Gen != 0 {
		t.Error("something was done")
	}
}

// P23.2
func TestOutIsBounded(t *testing.T) {
	l := lay(t, 3)
	for n := range uint64(4200) {
		l.nodes[1].Take(mkdir(1, n+1))
	}
	got := l.out(1)
	if len(got) != 4096 || got[4095].Call.Number != 4096 || got[0].Call.Number != 1 {
		t.Errorf("%d messages", len(got))
	}
	wants(t, "those behind are lost", l.out(1))
}

// P23.2
func TestNews(t *testing.T) {
	l := lay(t, 3)
	var heads []api.Hash
	var last []api.Message
	for n := range uint64(3) {
		last = l.take(0, mkdir(1, n+1))
		heads = append(heads, l.nodes[0].Super().Head)
	}
	l.run(last, 0, 1)
	known := func(from, to int) (list []api.Known) {
		for g := from; g <= to; g++ {
			list = append(list, api.Known{Gen: uint64(g), Head: heads[g-1]})
		}
		return list
	}
	if got := l.nodes[0].News(); !slices.Equal(got, known(1, 3)) {
		t.Errorf("the leader: %v", got)
	}
	if got := l.nodes[0].News(); len(got) != 0 {
		t.Errorf("told twice: %v", got)
	}
	if got := l.nodes[1].News(); len(got) != 0 {
		t.Errorf("the other one can't know: %v", got)
	}
	m := l.told(api.MsgCommit, 0, 1)
	m.Commit = 2
	l.take(1, m)
	if got := l.nodes[1].News(); !slices.Equal(got, known(1, 2)) {
		t.Errorf("two of them: %v", got)
	}
	m.Commit = 9
	l.take(1, m)
	l.super("no more than it has", 1, 0, 0, 3, 3)
	if got := l.nodes[1].News(); !slices.Equal(got, known(3, 3)) {
		t.Errorf("the third: %v", got)
	}
	l.run(l.tick(0), 0, 2)
	if got := l.nodes[2].News(); len(got) == 0 || got[len(got)-1] != known(3, 3)[0] {
		t.Errorf("as far as records are kept: %v", got)
	}
	l.reopen(1)
	if got := l.nodes[1].News(); len(got) != 0 || l.nodes[1].Commit() != 0 {
		t.Errorf("opened anew: %v", got)
	}
	l.take(1, l.told(api.MsgCommit, 0, 1))
	if got := l.nodes[1].News(); !slices.Equal(got, known(1, 3)) {
		t.Errorf("known again: %v", got)
	}
}

// P23.5
func TestOK(t *testing.T) {
	l := lay(t, 5)
	l.take(0, mkdir(1, 1))
	l.take(0, mkdir(1, 2))
	ok := func(from int, view, gen uint64) api.Message {
		return api.Message{Kind: api.MsgOK, From: from, View: view, Gen: gen}
	}
	wants(t, "two of five", l.take(0, ok(1, 0, 2), ok(1, 0, 2), ok(1, 0, 1)))
	wants(t, "another view", l.take(0, ok(2, 1, 2), ok(3, 1, 2)))
	wants(t, "a Gen above its own", l.take(0, ok(2, 0, 3), ok(3, 0, 1<<64-1)))
	wants(t, "no other node", l.take(0, ok(0, 0, 2), ok(5, 0, 2), ok(100, 0, 2)))
	l.super("nothing yet", 0, 0, 0, 2, 0)
	reply := api.Message{Kind: api.MsgReply, From: 0, To: 101, Call: api.Call{Client: 1, Number: 1}}
	wants(t, "the first one", l.take(0, ok(4, 0, 1)), reply)
	l.super("three of five have the first one", 0, 0, 0, 2, 1)
	reply.Call.Number = 2
	wants(t, "the second one", l.take(0, ok(3, 0, 2)), reply)
	wants(t, "nothing more", l.take(0, ok(2, 0, 2), ok(2, 0, 1)))
	wants(t, "who follows, doesn't count", l.take(1, ok(2, 0, 0), ok(3, 0, 0), ok(4, 0, 0)))

	l = lay(t, 3)
	l.take(0, mkdir(1, 1))
	l.take(0, ok(1, 0, 0))
	l.take(0, api.Message{Kind: api.MsgViewChange, From: 1, View: 4})
	wants(t, "not normal", l.take(0, ok(1, 4, 1), ok(1, 0, 1)))
	l.super("not normal", 0, 4, 0, 1, 0)
}

// P23.5: what others had in another view doesn't count in this one.
func TestMarksAreOfAView(t *testing.T) {
	l := lay(t, 5)
	l.take(0, mkdir(1, 1))
	l.take(0, api.Message{Kind: api.MsgOK, From: 1, Gen: 1})
	for _, from := range []int{2, 3} {
		l.take(0, api.Message{Kind: api.MsgViewChange, From: from, View: 5})
	}
	l.super("it leads again, with what it had", 0, 5, 5, 1, 0)
	l.take(0, api.Message{Kind: api.MsgOK, From: 2, View: 5, Gen: 1})
	l.super("two of five", 0, 5, 5, 1, 0)
	l.take(0, api.Message{Kind: api.MsgOK, From: 3, View: 5, Gen: 1})
	l.super("three of five", 0, 5, 5, 1, 1)
}

// P23.3: 64 of the new blocks are shipped at most; the others are fetched.
func TestManyNewBlocks(t *testing.T) {
	l := lay(t, 3)
	number := uint64(0)
	call := func(o api.Op) []api.Message {
		number++
		return l.take(0, request(1, number, o))
	}
	l.run(call(op(api.OpMkdir, "/d")), 0, 1, 2)
	for i, found := 0, 0; found < 46; i++ { // each one will be a leaf of its own behind /e
		if shape.Mark([]byte(fmt.Sprint("n/e/", i)), 0) {
			found++
			l.run(call(op(api.OpMkdir, fmt.Sprint("/d/", i))), 0, 1, 2)
		}
	}
	s, bag := l.nodes[0].Super(), l.nodes[0].Bag()
	_, more, _, _ := commit.Next(bag, s.Head, 0, request(1, number+1, api.Op{Kind: api.OpRename, Path: "/d", To: "/e"}).Call)
	ship := call(api.Op{Kind: api.OpRename, Path: "/d", To: "/e"})
	list := order.Hashes(more)
	if len(list) <= 64 {
		t.Fatalf("%d new blocks are too few", len(list))
	}
	if len(ship) != 2 || len(ship[1].Blocks) != 64 {
		t.Fatalf("%d blocks of %d", len(ship[1].Blocks), len(list))
	}
	for i, b := range ship[1].Blocks {
		if fmt.Sprint(b) != fmt.Sprint(more[list[i]]) {
			t.Errorf("block %d isn't the next one", i)
		}
	}
	got := l.run(ship[1:], 0, 2)
	l.super("it has all", 2, 0, 0, 48, l.nodes[2].Commit())
	if len(got) != 1 || l.nodes[0].Commit() != 48 {
		t.Errorf("%v", got)
	}
}

// P23.8
func TestFetch(t *testing.T) {
	l := lay(t, 3)
	l.serve(0, 1, 1, 3)
	bag := l.nodes[1].Bag()
	hashes := order.Hashes(bag)
	lost := api.Hash{1, 2, 3}
	ask := func(list ...api.Hash) []api.Message {
		return l.take(1, api.Message{Kind: api.MsgFetch, From: 2, To: 1, View: 9, Hashes: list})
	}
	wants(t, "in the order of Hashes", ask(hashes[2], lost, hashes[0], hashes[2]), api.Message{Kind: api.MsgBlocks, From: 1, To: 2, Blocks: [][]byte{bag[hashes[2]], bag[hashes[0]], bag[hashes[2]]}})
	wants(t, "none", ask(lost))
	wants(t, "nothing asked for", ask())
	got := ask(slices.Repeat(hashes[:1], 16)...)
	if len(got) != 1 || len(got[0].Blocks) != 16 {
		t.Errorf("%v", got)
	}
}

// P23.8: all other messages, and such as aren't right, or aren't from another node.
func TestPassedOver(t *testing.T) {
	l := lay(t, 3)
	l.serve(0, 1, 1, 2)
	for i := range l.nodes {
		before := fmt.Sprint(l.nodes[i].Super(), l.nodes[i].Commit())
		other := (i + 1) % 3
		fetch := api.Message{Kind: api.MsgFetch, Hashes: []api.Hash{l.nodes[i].Super().Head}}
		for _, from := range []int{i, 3, 6, 99, 100, 101, 255} {
			fetch.From = from
			wants(t, "not from another node", l.take(i, fetch))
			wants(t, "not from another node", l.take(i, api.Message{Kind: api.MsgViewChange, From: from, View: 7}))
		}
		for _, from := range []int{-1, 256, -1 << 63} {
			fetch.From = from
			wants(t, "refused by Check", l.take(i, fetch))
		}
		fetch.From, fetch.Answer.N = other, 1
		wants(t, "refused by Check", l.take(i, fetch))
		wants(t, "refused by Check", l.take(i, api.Message{From: other}, api.Message{Kind: 9, From: other}, api.Message{Kind: api.MsgViewChange, From: other, View: 9, Blocks: make([][]byte, 65)}))
		wants(t, "a reply", l.take(i, api.Message{Kind: api.MsgReply, From: other, Call: api.Call{Client: 1, Number: 1}}))
		wants(t, "a wrong request", l.take(i, request(4, 1, op(1, "/x")), request(1, 0, op(1, "/x")), request(1, 9, op(0, "/x"))))
		wants(t, "blocks that nobody asked for", l.take(i, api.Message{Kind: api.MsgBlocks, From: other, Blocks: [][]byte{[]byte("junk")}}))
		if got := fmt.Sprint(l.nodes[i].Super(), l.nodes[i].Commit()); got != before {
			t.Errorf("node %d has changed: %s", i, got)
		}
	}
}

// P23.10
func TestNothingShared(t *testing.T) {
	l := lay(t, 3)
	m := request(1, 1, api.Op{Kind: api.OpCreate, Path: "/a", Data: []byte("xyz")})
	to := m
	to.To = 1
	l.nodes[1].Take(to)
	ship := l.take(0, m)
	m.Call.Op.Data[0] = '!'
	r, _, _ := commit.Load(l.nodes[0].Bag(), l.nodes[0].Super().Head)
	if got := l.out(1); string(r.Call.Op.Data) != "xyz" || string(got[0].Call.Op.Data) != "xyz" {
		t.Error("an argument is kept")
	}
	for _, b := range ship[1].Blocks {
		clear(b)
	}
	l.take(1, ship[0])
	for _, b := range ship[0].Blocks {
		clear(b)
	}
	for _, b := range l.nodes[1].Bag() {
		clear(b)
	}
	l.super("nothing is shared", 0, 0, 0, 1, 0)
	l.super("nothing is shared", 1, 0, 0, 1, 0)
	l.run([]api.Message{l.ok(1, 0)}, 0)
	news := l.nodes[0].News()
	news[0].Gen = 99
	l.run(l.take(0, mkdir(2, 1)), 0, 1)
	if got := l.nodes[0].News(); len(got) != 1 || got[0].Gen != 2 {
		t.Errorf("%v", got)
	}
}

// P2: what becomes of a group that was laid by another layer.
func TestOverAGroup(t *testing.T) {
	d, _ := disk.New(60)
	g, _ := group.New(d)
	s := g.Super()
	s.View, s.Normal = 5, 2
	g.Save(s, nil)
	r, e := Open(d, 0, 1)
	if e != api.OK {
		t.Fatal(e)
	}
	r.Take(mkdir(1, 1))
	if len(r.Out()) != 0 {
		t.Error("it isn't normal")
	}
	r.Tick()
	if s := r.Super(); s.View != 5 || s.Normal != 5 {
		t.Errorf("more than half of one is one: %v", s)
	}
}
