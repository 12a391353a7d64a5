package replica

import (
	"testing"

	"trireme/api"
	"trireme/disk"
	"trireme/group"
	"trireme/sha"
)

func hashOf(b []byte) api.Hash { return sha.Sum(b) }

// P23.6
func TestLeaderTicks(t *testing.T) {
	l := lay(t, 5)
	l.serve(0, 1, 1, 2)
	for range 9 {
		wants(t, "a tick of the leader", l.tick(0), l.told(api.MsgCommit, 0, 1), l.told(api.MsgCommit, 0, 2), l.told(api.MsgCommit, 0, 3), l.told(api.MsgCommit, 0, 4))
	}
	l.super("it leads on", 0, 0, 0, 2, 2)
}

// P23.6
func TestSilence(t *testing.T) {
	l := lay(t, 5)
	l.serve(0, 1, 1, 2)
	pleas := func() (list []api.Message) {
		for _, to := range []int{0, 1, 3, 4} {
			list = append(list, l.plea(2, to))
		}
		return list
	}
	for view := uint64(1); view < 4; view++ {
		for range 3 {
			got := l.tick(2)
			if view == 1 {
				wants(t, "silence so far", got)
			} else {
				wants(t, "again with each Tick", got, pleas()...)
			}
			l.super("three ticks", 2, view-1, 0, 2, 2)
		}
		got := l.tick(2)
		l.super("the fourth tick", 2, view, 0, 2, 2)
		wants(t, "the fourth tick", got, pleas()...)
		if m := got[0]; m.View != view || m.Normal != 0 || m.Gen != 2 || m.Commit != 2 {
			t.Errorf("%v", m)
		}
		if l.nodes[2].Super().Commit != 2 {
			t.Error("what is known isn't saved")
		}
	}
	l.reopen(2)
	l.super("it lasts", 2, 3, 0, 2, 2)
	wants(t, "it isn't normal yet", l.tick(2), pleas()...)
}

// P23.6: what breaks the silence, and what doesn't.
func TestWhatIsHeard(t *testing.T) {
	for what, c := range map[string]struct {
		m     func(l *lab) api.Message
		heard bool
	}{
		"the leader":            {func(l *lab) api.Message { return l.told(api.MsgCommit, 0, 2) }, true},
		"the leader's Prepare":  {func(l *lab) api.Message { return l.told(api.MsgPrepare, 0, 2) }, true},
		"a later leader":        {func(l *lab) api.Message { return api.Message{Kind: api.MsgCommit, From: 1, View: 1, Gen: 9} }, true},
		"another node":          {func(l *lab) api.Message { return l.told(api.MsgCommit, 1, 2) }, false},
		"a request":             {func(l *lab) api.Message { return mkdir(1, 1) }, false},
		"an OK":                 {func(l *lab) api.Message { return l.ok(0, 2) }, false},
		"a fetch":               {func(l *lab) api.Message { return api.Message{Kind: api.MsgFetch, From: 0} }, false},
		"blocks":                {func(l *lab) api.Message { return api.Message{Kind: api.MsgBlocks, From: 0} }, false},
		"a view that isn't new": {func(l *lab) api.Message { return api.Message{Kind: api.MsgViewChange, From: 1} }, false},
		"nothing":               {func(l *lab) api.Message { return api.Message{} }, false},
	} {
		l := lay(t, 3)
		for range 3 {
			l.tick(2)
		}
		l.take(2, c.m(l))
		for n := range 4 {
			if gone := l.nodes[2].Super().View > 0; gone != (!c.heard && n > 0) {
				t.Errorf("%s: %d ticks later: %t", what, n, gone)
			}
			l.tick(2)
		}
	}
}

// P23.6: a new view is a word, too; the same one again isn't.
func TestNewViewIsHeard(t *testing.T) {
	l := lay(t, 5)
	for range 3 {
		l.tick(2)
	}
	m := api.Message{Kind: api.MsgViewChange, From: 4, View: 8}
	wants(t, "goes on likewise", l.take(2, m), l.plea(2, 0), l.plea(2, 1), l.plea(2, 3), l.plea(2, 4))
	l.super("goes on", 2, 8, 0, 0, 0)
	for range 3 {
		l.tick(2)
		wants(t, "the same one", l.take(2, m))
		m.View = 7
		wants(t, "an elder one", l.take(2, m))
		m.View = 8
		l.super("the same one", 2, 8, 0, 0, 0)
	}
	l.tick(2)
	l.super("silence", 2, 9, 0, 0, 0)
	l.take(0, api.Message{Kind: api.MsgViewChange, From: 4, View: 3})
	l.super("who leads goes on likewise", 0, 3, 0, 0, 0)
}

// P23.7
func TestElected(t *testing.T) {
	l := lay(t, 5)
	l.serve(0, 1, 1, 2)
	ship := l.take(0, mkdir(2, 1))
	l.take(3, ship[2])
	l.super("one of the others has it", 3, 0, 0, 3, 2)
	for range 4 {
		l.tick(1)
	}
	l.super("come to view 1", 1, 1, 0, 2, 2)
	plea := func(from int) api.Message {
		return l.take(from, l.plea(1, from))[map[int]int{2: 1, 3: 1, 4: 1}[from]]
	}
	wants(t, "two of five", l.take(1, plea(2)))
	wants(t, "one of them twice", l.take(1, l.plea(2, 1)))
	l.super("two of five", 1, 1, 0, 2, 2)
	three := plea(3)
	got := l.take(1, three)
	wants(t, "three of five: what the third one has is fetched", got, api.Message{Kind: api.MsgFetch, From: 1, To: 3, Hashes: []api.Hash{three.Head}})
	wants(t, "told again", l.take(1, three))
	wants(t, "with each Tick", l.tick(1), l.plea(1, 0), l.plea(1, 2), l.plea(1, 3), l.plea(1, 4), got[0])
	l.super("until all is there", 1, 1, 0, 2, 2)
	for len(got) == 1 && got[0].Kind == api.MsgFetch {
		got = l.take(1, l.take(3, got[0])...)
	}
	wants(t, "it leads", got, l.told(api.MsgCommit, 1, 0), l.told(api.MsgCommit, 1, 2), l.told(api.MsgCommit, 1, 3), l.told(api.MsgCommit, 1, 4))
	l.super("it leads", 1, 1, 1, 3, 2)
	wants(t, "the call is known to be committed once more than half have it", l.run(got, 1, 2, 3))
	l.super("committed", 1, 1, 1, 3, 3)
	wants(t, "the client asks", l.take(1, mkdir(2, 1)), api.Message{Kind: api.MsgReply, From: 1, To: 102, Call: api.Call{Client: 2, Number: 1}})
}

// P23.7: its own head may be the one.
func TestElectedWithItsOwn(t *testing.T) {
	l := lay(t, 3)
	l.run(l.take(0, mkdir(2, 1)), 1)
	l.take(2, api.Message{Kind: api.MsgViewChange, From: 1, View: 1})
	got := l.take(1, l.plea(2, 1))
	first, second := l.plea(1, 0), l.plea(1, 2)
	first.Normal, second.Normal = 0, 0
	wants(t, "at once", got, first, second, l.told(api.MsgCommit, 1, 0), l.told(api.MsgCommit, 1, 2))
	if got[0].Normal != 0 || got[2].View != 1 {
		t.Errorf("%v", got)
	}
	l.super("it leads", 1, 1, 1, 1, 0)
}

// P23.7: the greatest Commit that was told is saved, and kept from.
func TestElectedCommit(t *testing.T) {
	l := lay(t, 3)
	l.run(l.take(0, mkdir(2, 1)), 0, 1, 2)
	l.run(l.take(0, mkdir(2, 2)), 0, 1, 2)
	m := l.told(api.MsgCommit, 0, 2)
	l.take(2, m)
	l.super("the one that knows", 2, 0, 0, 2, 2)
	l.super("the one that doesn't", 1, 0, 0, 2, 1)
	l.take(2, api.Message{Kind: api.MsgViewChange, From: 0, View: 1})
	got := l.take(1, l.plea(2, 1))
	l.super("it knows", 1, 1, 1, 2, 2)
	if s := l.nodes[1].Super(); s.Commit != 2 || got[2].Commit != 2 {
		t.Errorf("%v", s)
	}
}

// P23.7: a better one that comes meanwhile is chosen; a vote of another view doesn't count.
func TestChosenAnew(t *testing.T) {
	l := lay(t, 5)
	vote := func(from int, view, normal, gen uint64) api.Message {
		return api.Message{Kind: api.MsgViewChange, From: from, View: view, Normal: normal, Gen: gen, Head: api.Hash{byte(from)}}
	}
	l.take(1, vote(2, 6, 0, 3))
	wants(t, "another view", l.take(1, vote(3, 5, 0, 9)))
	asks := func(from int) api.Message {
		return api.Message{Kind: api.MsgFetch, From: 1, To: from, Hashes: []api.Hash{{byte(from)}}}
	}
	wants(t, "three of five", l.take(1, vote(3, 6, 0, 4)), asks(3))
	wants(t, "a lesser one", l.take(1, vote(4, 6, 0, 1)))
	wants(t, "a better one", l.take(1, vote(4, 6, 2, 2)), asks(4))
	l.super("it can't have them", 1, 6, 0, 0, 0)
	for range 4 {
		l.tick(1)
	}
	l.super("silence", 1, 7, 0, 0, 0)
	wants(t, "the aim is gone, and it isn't this view's", l.tick(1), l.plea(1, 0), l.plea(1, 2), l.plea(1, 3), l.plea(1, 4))
}

// P23.7: who isn't the view's Primary takes no votes.
func TestNotThePrimary(t *testing.T) {
	l := lay(t, 3)
	l.take(1, api.Message{Kind: api.MsgViewChange, From: 0, View: 2}, api.Message{Kind: api.MsgViewChange, From: 2, View: 2})
	l.super("it waits for the leader", 1, 2, 0, 0, 0)
	for range 3 {
		wants(t, "it waits", l.tick(1), l.plea(1, 0), l.plea(1, 2))
	}
}

// P23.6: there is no View beyond the last one.
func TestLastView(t *testing.T) {
	l := lay(t, 3)
	last := uint64(1<<64 - 1)
	wants(t, "goes on", l.take(1, api.Message{Kind: api.MsgViewChange, From: 0, View: last}), l.plea(1, 0), l.plea(1, 2))
	for range 9 {
		wants(t, "it stays", l.tick(1), l.plea(1, 0), l.plea(1, 2))
	}
	l.super("it stays", 1, last, 0, 0, 0)
	d, _ := disk.New(60)
	g, _ := group.New(d)
	s := g.Super()
	s.View, s.Normal = last, last
	g.Save(s, nil)
	r, _ := Open(d, 1, 3)
	for range 9 {
		r.Tick()
	}
	if got := r.Out(); len(got) != 0 || r.Super().Normal != last {
		t.Errorf("normal in the last View: %v", got)
	}
}
