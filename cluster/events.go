package cluster

import (
	"trireme/api"
	"trireme/client"
	"trireme/replica"
	"trireme/twin"
)

func (w *World) call(who int, o api.Op) api.Errno {
	c, ok := w.client(who)
	if !ok {
		return api.ErrStep
	}
	number, e := c.Call(o)
	if e != api.OK {
		return e
	}
	w.calls = append(w.calls, api.Done{Call: api.Call{Client: who, Number: number, Op: twin.Op(o)}, Start: w.events, End: -1})
	w.sendAll(c.Ask(len(w.machines)))
	return api.OK
}

func (w *World) ask(who int) api.Errno {
	c, ok := w.client(who)
	if !ok {
		return api.ErrStep
	}
	w.sendAll(c.Ask(len(w.machines)))
	return api.OK
}

func (w *World) tick(who int) api.Errno {
	m, ok := w.up(who)
	if !ok {
		return api.ErrStep
	}
	m.node.Tick()
	w.settle(who, m)
	return api.OK
}

func (w *World) deliver(k int) api.Errno {
	message, ok := w.Take(k)
	if !ok {
		return api.ErrStep
	}
	if m, ok := w.up(message.To); ok {
		m.node.Take(message)
		w.settle(message.To, m)
	}
	if c, ok := w.client(message.To - api.FirstClient); ok {
		if a, ok := c.Take(message); ok {
			w.answered(message.Call, a)
		}
	}
	return api.OK
}

// answered notes the answer of a call.
func (w *World) answered(c api.Call, a api.Answer) {
	for i := len(w.calls) - 1; i >= 0; i-- {
		d := &w.calls[i]
		if d.Call.Client == c.Client && d.Call.Number == c.Number {
			d.End, d.Answer = w.events, a
			return
		}
	}
}

func (w *World) power(who, calls int) api.Errno {
	m, ok := w.up(who)
	if !ok {
		return api.ErrStep
	}
	m.disk.Limit(calls)
	return api.OK
}

func (w *World) crash(who int, fates []int) api.Errno {
	m, ok := w.machine(who)
	if !ok {
		return api.ErrStep
	}
	m.node, m.disk, m.crashed = nil, m.disk.Crash(fates), true
	return api.OK
}

func (w *World) open(who int) api.Errno {
	m, ok := w.machine(who)
	if !ok || m.node != nil || !m.crashed {
		return api.ErrStep
	}
	node, e := replica.Open(m.disk, who, len(w.machines))
	if e != api.OK {
		return e
	}
	m.node, m.crashed, m.seen = node, false, 0
	w.settle(who, m)
	return api.OK
}

// settle sends what a node has to say behind a step, and notes what it has come to; a node that the step has brought down is off.
func (w *World) settle(who int, m *machine) {
	w.sendAll(m.node.Out())
	for _, known := range m.node.News() {
		w.sights = append(w.sights, api.Sight{Node: who, At: w.events, Known: known})
	}
	w.look(m)
	if m.node.Down() {
		m.node = nil
	}
}

func (w *World) sendAll(list []api.Message) {
	for _, m := range list {
		w.Send(m)
	}
}

func (w *World) machine(who int) (*machine, bool) {
	if who < 0 || who >= len(w.machines) {
		return nil, false
	}
	return w.machines[who], true
}

// up gives a node's machine, if the node is up.
func (w *World) up(who int) (*machine, bool) {
	m, ok := w.machine(who)
	if !ok || m.node == nil {
		return nil, false
	}
	return m, true
}

func (w *World) client(who int) (*client.Client, bool) {
	if who < 0 || who >= len(w.clients) {
		return nil, false
	}
	return w.clients[who], true
}
