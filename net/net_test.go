package net

import (
	"fmt"
	"testing"

	"trireme/api"
)

func message(n int) api.Message {
	return api.Message{Kind: api.MsgBlocks, From: 1, To: 2, View: uint64(n), Hashes: []api.Hash{{byte(n)}}, Blocks: [][]byte{{byte(n)}, []byte("b")}}
}

func show(m api.Message) string { return fmt.Sprint(m) }

// holds: just these are under way, in this order.
func holds(t *testing.T, what string, n *Net, want ...int) {
	t.Helper()
	if n.Len() != len(want) {
		t.Errorf("%s: %d under way, not %d", what, n.Len(), len(want))
		return
	}
	for k, x := range want {
		if m, ok := n.Peek(k); !ok || show(m) != show(message(x)) {
			t.Errorf("%s: message %d: %v", what, k, m)
		}
	}
}

func send(t *testing.T, n *Net, list ...int) {
	t.Helper()
	for _, x := range list {
		if e := n.Send(message(x)); e != api.OK {
			t.Fatal(e)
		}
	}
}

// P24.1
func TestSend(t *testing.T) {
	n := New()
	holds(t, "New", n)
	for _, m := range []api.Message{{}, {Kind: 9}, {Kind: api.MsgOK, From: 256}, {Kind: api.MsgOK, To: -1}, {Kind: api.MsgRequest}, {Kind: api.MsgOK, Answer: api.Answer{N: 1}}} {
		if e := n.Send(m); e != api.ErrArg {
			t.Errorf("%v: %v", m, e)
		}
	}
	holds(t, "nothing was sent", n)
	send(t, n, 1, 2, 3)
	holds(t, "in order", n, 1, 2, 3)
	for n.Len() < 4000 {
		send(t, n, 4)
	}
	if e := n.Send(message(5)); e != api.ErrBox || n.Len() != 4000 {
		t.Errorf("%v, %d", e, n.Len())
	}
	if e := n.Send(api.Message{}); e != api.ErrArg {
		t.Errorf("a wrong one ahead of room: %v", e)
	}
	if n.Copy(0) || n.Len() != 4000 {
		t.Error("Copy without room")
	}
	n.Drop(3999)
	if !n.Copy(1) || n.Copy(1) || n.Len() != 4000 {
		t.Error("Copy with room for one")
	}
	if m, ok := n.Peek(3999); !ok || show(m) != show(message(2)) {
		t.Errorf("%v", m)
	}
}

// P24.2
func TestNumbers(t *testing.T) {
	n := New()
	refuses := func() {
		t.Helper()
		for _, k := range []int{-1 << 63, -1, n.Len(), n.Len() + 1, 1<<63 - 1} {
			before := n.Len()
			if m, ok := n.Take(k); ok || show(m) != show(api.Message{}) {
				t.Errorf("Take(%d): %v", k, m)
			}
			if m, ok := n.Peek(k); ok || show(m) != show(api.Message{}) {
				t.Errorf("Peek(%d): %v", k, m)
			}
			if n.Drop(k) || n.Copy(k) || n.Len() != before {
				t.Errorf("%d: something was done", k)
			}
		}
	}
	takes := func(k, want int) {
		t.Helper()
		if m, ok := n.Take(k); !ok || show(m) != show(message(want)) {
			t.Errorf("Take(%d): %v", k, m)
		}
	}
	refuses()
	send(t, n, 0, 1, 2, 3, 4)
	refuses()
	takes(1, 1)
	holds(t, "those behind have numbers one less", n, 0, 2, 3, 4)
	if !n.Drop(2) {
		t.Error("Drop")
	}
	holds(t, "dropped", n, 0, 2, 4)
	if !n.Copy(0) {
		t.Error("Copy")
	}
	holds(t, "copied", n, 0, 2, 4, 0)
	takes(0, 0)
	takes(2, 0)
	holds(t, "both were taken", n, 2, 4)
	takes(1, 4)
	takes(0, 2)
	refuses()
	send(t, n, 7)
	holds(t, "sent again", n, 7)
}

// P24.3, rule 6
func TestNothingShared(t *testing.T) {
	n, other := New(), New()
	m := message(1)
	n.Send(m)
	n.Copy(0)
	spoil := func(m api.Message) { m.Hashes[0], m.Blocks[0][0], m.Blocks[1] = api.Hash{9}, 9, nil }
	spoil(m)
	for range 2 {
		m, _ := n.Peek(0)
		spoil(m)
		m, _ = n.Take(0)
		if show(m) != show(message(1)) {
			t.Errorf("%v", m)
		}
		spoil(m)
	}
	if other.Len() != 0 {
		t.Error("two nets are one")
	}
}
