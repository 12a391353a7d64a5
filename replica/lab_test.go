package replica

import (
	"fmt"
	"slices"
	"testing"

	"trireme/api"
	"trireme/commit"
	"trireme/disk"
	"trireme/wire"
)

// lab is some nodes on their disks, whose messages the test hands about.
type lab struct {
	t     *testing.T
	disks []*disk.Disk
	nodes []*Replica
}

func lay(t *testing.T, nodes int) *lab {
	t.Helper()
	l := &lab{t: t}
	for me := range nodes {
		d, _ := disk.New(300)
		r, e := New(d, me, nodes)
		if r == nil || e != api.OK {
			t.Fatal(e)
		}
		l.disks, l.nodes = append(l.disks, d), append(l.nodes, r)
	}
	return l
}

// reopen crashes a node, and opens it anew.
func (l *lab) reopen(i int, fates ...int) {
	l.t.Helper()
	l.disks[i] = l.disks[i].Crash(fates)
	r, e := Open(l.disks[i], i, len(l.nodes))
	if r == nil || e != api.OK {
		l.t.Fatal(e)
	}
	l.nodes[i] = r
}

// out gives what a node has to say; all of it is right, and its own.
func (l *lab) out(i int) []api.Message {
	l.t.Helper()
	list := l.nodes[i].Out()
	for _, m := range list {
		if wire.Check(m) != api.OK || m.From != i && m.Kind != api.MsgRequest {
			l.t.Errorf("node %d sends %v", i, m)
		}
	}
	return list
}

func (l *lab) take(i int, list ...api.Message) []api.Message {
	l.t.Helper()
	for _, m := range list {
		l.nodes[i].Take(m)
	}
	return l.out(i)
}

func (l *lab) tick(i int) []api.Message {
	l.t.Helper()
	l.nodes[i].Tick()
	return l.out(i)
}

// run hands messages about among the nodes that are named, till there are none, and gives those for clients.
func (l *lab) run(list []api.Message, among ...int) []api.Message {
	l.t.Helper()
	var clients []api.Message
	for n := 0; len(list) > 0; n++ {
		if n > 10000 {
			l.t.Fatal("messages without an end")
		}
		m := list[0]
		list = list[1:]
		if m.To >= api.FirstClient {
			clients = append(clients, m)
		} else if slices.Contains(among, m.To) {
			list = append(list, l.take(m.To, m)...)
		}
	}
	return clients
}

func op(kind int, path string) api.Op { return api.Op{Kind: kind, Path: path} }

func request(client int, number uint64, o api.Op) api.Message {
	return api.Message{Kind: api.MsgRequest, From: api.FirstClient + client, To: 0, Call: api.Call{Client: client, Number: number, Op: o}}
}

func mkdir(client int, number uint64) api.Message {
	return request(client, number, op(api.OpMkdir, fmt.Sprintf("/%d%d", client, number)))
}

// wants: these are the messages, field by field.
func wants(t *testing.T, what string, got []api.Message, want ...api.Message) {
	t.Helper()
	if len(got) != len(want) {
		t.Errorf("%s: %d messages, not %d: %s", what, len(got), len(want), fmt.Sprint(got))
		return
	}
	for i := range got {
		if fmt.Sprint(got[i]) != fmt.Sprint(want[i]) {
			t.Errorf("%s: message %d: %v, not %v", what, i, got[i], want[i])
		}
	}
}

// told is what a leader's message has in it, beside its Kind.
func (l *lab) told(kind, from, to int) api.Message {
	r := l.nodes[from]
	s := r.Super()
	return api.Message{Kind: kind, From: from, To: to, View: s.View, Gen: s.Gen, Commit: r.Commit(), Head: s.Head}
}

func (l *lab) ok(from, to int) api.Message {
	s := l.nodes[from].Super()
	return api.Message{Kind: api.MsgOK, From: from, To: to, View: s.View, Gen: s.Gen, Head: s.Head}
}

func (l *lab) plea(from, to int) api.Message {
	m := l.told(api.MsgViewChange, from, to)
	m.Normal = l.nodes[from].Super().Normal
	return m
}

// super looks at a node's View, Normal and Gen, and at what it knows to be committed.
func (l *lab) super(what string, i int, view, normal, gen, committed uint64) {
	l.t.Helper()
	s := l.nodes[i].Super()
	if s.View != view || s.Normal != normal || s.Gen != gen || l.nodes[i].Commit() != committed {
		l.t.Errorf("%s: node %d: %v, %d known", what, i, s, l.nodes[i].Commit())
	}
	if list, e := commit.Hashes(l.nodes[i].Bag(), s.Head, s.Commit); e != api.OK || len(list) != len(l.nodes[i].Bag()) {
		l.t.Errorf("%s: node %d: what it keeps: %v", what, i, e)
	}
}

// all are the nodes' numbers.
func (l *lab) all() (list []int) {
	for i := range l.nodes {
		list = append(list, i)
	}
	return list
}

// serve lets the leader do so many calls, which all nodes come to have.
func (l *lab) serve(leader, client int, from, to uint64) {
	l.t.Helper()
	for n := from; n <= to; n++ {
		if got := l.run(l.take(leader, mkdir(client, n)), l.all()...); len(got) != 1 {
			l.t.Fatalf("call %d: %v", n, got)
		}
	}
	l.run(l.tick(leader), l.all()...)
	for i := range l.nodes {
		if l.nodes[i].Super().Head != l.nodes[leader].Super().Head {
			l.t.Fatal("not all have it")
		}
	}
}

// elect makes a node lead in a view, with the votes of others, while the rest hears nothing.
func (l *lab) elect(view uint64, among ...int) {
	l.t.Helper()
	primary := int(view) % len(l.nodes)
	for _, i := range among {
		if i == primary {
			continue
		}
		m := api.Message{Kind: api.MsgViewChange, From: primary, To: i, View: view}
		if l.nodes[i].Super().View < view {
			l.run(l.take(i, m), among...)
		}
	}
	s := l.nodes[primary].Super()
	if s.View != view || s.Normal != view {
		l.t.Fatalf("node %d doesn't lead view %d: %v", primary, view, s)
	}
}
