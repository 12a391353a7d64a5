package client

import (
	"fmt"
	"strings"
	"testing"

	"trireme/api"
)

func lay(t *testing.T, id int) *Client {
	t.Helper()
	c, e := New(id)
	if c == nil || e != api.OK {
		t.Fatal(e)
	}
	return c
}

func op() api.Op {
	return api.Op{Kind: api.OpWrite, Path: "/a", Off: 1, Data: []byte("xyz")}
}

func reply(client int, number uint64) api.Message {
	return api.Message{Kind: api.MsgReply, From: 2, To: 100 + client, Call: api.Call{Client: client, Number: number}, Answer: api.Answer{N: 3, Data: []byte("d"), Names: []string{"n"}}}
}

func show(v any) string { return fmt.Sprint(v) }

// P25.1
func TestNew(t *testing.T) {
	for _, id := range []int{-1 << 63, -1, 4, 100, 1<<63 - 1} {
		if c, e := New(id); c != nil || e != api.ErrConfig {
			t.Errorf("New(%d): %v", id, e)
		}
	}
	for id := range 4 {
		if c := lay(t, id); c.Waiting() || len(c.Ask(3)) != 0 {
			t.Error("a new client has asked for nothing")
		}
	}
}

func call(t *testing.T, c *Client, number uint64) {
	t.Helper()
	if n, e := c.Call(op()); n != number || e != api.OK || !c.Waiting() {
		t.Errorf("Call: %d, %v", n, e)
	}
}

// P25.2
func TestCall(t *testing.T) {
	c := lay(t, 1)
	wrong := func(o api.Op, want api.Errno) {
		t.Helper()
		waiting := c.Waiting()
		if n, e := c.Call(o); n != 0 || e != want || c.Waiting() != waiting {
			t.Errorf("%v: %d, %v", o, n, e)
		}
	}
	wrong(api.Op{}, api.ErrArg)
	wrong(api.Op{Kind: 14}, api.ErrArg)
	wrong(api.Op{Kind: 1, Path: strings.Repeat("a", 33)}, api.ErrArg)
	call(t, c, 1)
	wrong(op(), api.ErrStep)
	wrong(api.Op{}, api.ErrStep)
	c.Take(reply(1, 1))
	wrong(api.Op{Kind: 1, N: -1}, api.ErrArg)
	call(t, c, 2)
	c.Take(reply(1, 2))
	call(t, c, 3)
}

// P25.3
func TestAsk(t *testing.T) {
	c := lay(t, 3)
	call(t, c, 1)
	for nodes, want := range map[int]int{-1 << 63: 0, -1: 0, 0: 0, 1: 1, 3: 3, 7: 7, 8: 7, 1<<63 - 1: 7} {
		list := c.Ask(nodes)
		if len(list) != want {
			t.Errorf("Ask(%d): %d", nodes, len(list))
		}
		for to, m := range list {
			if show(m) != show(api.Message{Kind: api.MsgRequest, From: 103, To: to, Call: api.Call{Client: 3, Number: 1, Op: op()}}) {
				t.Errorf("Ask(%d): %v", nodes, m)
			}
		}
	}
	c.Take(reply(3, 1))
	if len(c.Ask(3)) != 0 {
		t.Error("it was answered")
	}
	call(t, c, 2)
	if list := c.Ask(1); len(list) != 1 || list[0].Call.Number != 2 {
		t.Errorf("%v", list)
	}
}

// P25.4
func TestTake(t *testing.T) {
	c := lay(t, 1)
	passes := func(what string, m api.Message) {
		t.Helper()
		waiting := c.Waiting()
		if a, ok := c.Take(m); ok || show(a) != show(api.Answer{}) || c.Waiting() != waiting {
			t.Errorf("%s: %v", what, a)
		}
	}
	passes("it has asked for nothing", reply(1, 1))
	passes("number 0", reply(1, 0))
	call(t, c, 1)
	c.Take(reply(1, 1))
	call(t, c, 2)
	passes("an elder one", reply(1, 1))
	passes("a later one", reply(1, 3))
	passes("another client's", reply(2, 2))
	passes("no client's", reply(4, 2))
	m := reply(1, 2)
	m.Answer.N = -1
	passes("not right", m)
	m = reply(1, 2)
	m.Call.Op.Kind = 1
	passes("not right", m)
	passes("a request", api.Message{Kind: api.MsgRequest, From: 100, Call: api.Call{Client: 1, Number: 2, Op: op()}})
	passes("zero", api.Message{})
	m = reply(1, 2)
	m.From, m.To, m.View = 77, 9, 5
	a, ok := c.Take(m)
	if !ok || show(a) != show(m.Answer) || c.Waiting() {
		t.Errorf("%v, %t", a, ok)
	}
	passes("once more", m)
}

// P25.5
func TestNothingShared(t *testing.T) {
	c := lay(t, 1)
	o := op()
	c.Call(o)
	o.Data[0] = '!'
	list := c.Ask(3)
	list[0].Call.Op.Data[0] = '!'
	for _, m := range append(c.Ask(1), list[1]) {
		if string(m.Call.Op.Data) != "xyz" {
			t.Error("something is shared")
		}
	}
	m := reply(1, 1)
	a, _ := c.Take(m)
	a.Data[0], a.Names[0] = '!', "!"
	if string(m.Answer.Data) != "d" || m.Answer.Names[0] != "n" {
		t.Error("an argument is shared")
	}
}
