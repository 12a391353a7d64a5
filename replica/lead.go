package replica

import (
	"maps"
	"slices"

	"trireme/api"
	"trireme/commit"
	"trireme/order"
	"trireme/table"
	"trireme/tally"
)

// made is what a client is to be told once its generation is committed.
type made struct {
	call   api.Call // without its operation
	answer api.Answer
}

func (r *Replica) takeRequest(m api.Message) {
	if !r.leads() {
		if r.normal() {
			m.To = r.primary()
			r.out.Put(m)
		}
		return
	}
	r.count()
	_, w, e := commit.Load(r.bag, r.Super().Head)
	if e != api.OK {
		return
	}
	how, a := table.Look(w.Seats, m.Call.Client, m.Call.Number)
	switch {
	case how == api.Again && r.isCommitted(m.Call):
		r.reply(made{m.Call, a})
	case how == api.Fresh && r.Super().Gen-r.committed < api.Window:
		r.do(m.Call)
	}
}

// do makes the next generation, and ships it once it lasts.
func (r *Replica) do(c api.Call) {
	s := r.Super()
	head, more, a, e := commit.Next(r.bag, s.Head, s.View, c)
	if e != api.OK {
		return
	}
	s.Head, s.Gen, s.Commit = head, s.Gen+1, r.committed
	if !r.save(s, more) {
		return
	}
	r.answers[s.Gen] = made{c, a}
	m := api.Message{Kind: api.MsgPrepare}
	for _, h := range order.Hashes(more) {
		if len(m.Blocks) < api.MostBlocks {
			m.Blocks = append(m.Blocks, more[h])
		}
	}
	r.tellAll(m)
	r.count()
}

// isCommitted tells whether the call, which was done last of its client's, is that of a generation that is known to be committed.
func (r *Replica) isCommitted(c api.Call) bool {
	for _, g := range r.line(r.committed) {
		if g.record.Call.Client == c.Client && g.record.Call.Number == c.Number {
			return false
		}
	}
	return true
}

func (r *Replica) reply(m made) {
	c := api.Call{Client: m.call.Client, Number: m.call.Number}
	r.send(api.FirstClient+c.Client, api.Message{Kind: api.MsgReply, Call: c, Answer: m.answer})
}

func (r *Replica) takeOK(m api.Message) {
	s := r.Super()
	if r.leads() && m.View == s.View && m.Gen <= s.Gen {
		r.marks = tally.Add(r.marks, api.Mark{Node: m.From, Gen: m.Gen})
		r.count()
	}
}

// count finds what more than half have, this one among them.
func (r *Replica) count() {
	r.marks = tally.Add(r.marks, api.Mark{Node: r.me, Gen: r.Super().Gen})
	r.learn(tally.Commit(r.marks, r.nodes))
}

// learn comes to know what is committed, as far as this node has it; whose calls it has done, is answered.
func (r *Replica) learn(gen uint64) {
	gen = min(gen, r.Super().Gen)
	if gen <= r.committed {
		return
	}
	for _, g := range r.line(r.committed) {
		if g.record.Gen <= gen {
			r.news = append(r.news, api.Known{Gen: g.record.Gen, Head: g.head})
		}
	}
	r.committed = gen
	for _, gen := range slices.Sorted(maps.Keys(r.answers)) {
		if gen <= r.committed {
			r.reply(r.answers[gen])
			delete(r.answers, gen)
		}
	}
}

// generation is a record with its digest.
type generation struct {
	head   api.Hash
	record api.Record
}

// line gives the generations of the head's history behind that of a number, as far as their records are kept, rising.
func (r *Replica) line(behind uint64) []generation {
	var list []generation
	for h := r.Super().Head; ; {
		record, e := commit.Read(r.bag[h])
		if e != api.OK || record.Gen <= behind {
			break
		}
		list = append(list, generation{h, record})
		h = record.Parent
	}
	slices.Reverse(list)
	return list
}
