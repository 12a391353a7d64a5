package replica

import (
	"maps"

	"trireme/api"
	"trireme/stage"
	"trireme/vote"
)

// aim is a head that is to be this node's, once all of it is there.
type aim struct {
	*stage.Stage
	own               api.Bag // what this node kept when the stage began
	from              int     // the node that has it
	view, gen, commit uint64
	head              api.Hash
	lead              bool // this node leads with it; else it follows the one that told it
}

// takeTold takes what the leader tells.
func (r *Replica) takeTold(m api.Message) {
	s := r.Super()
	if m.View < s.View || vote.Primary(m.View, r.nodes) != m.From {
		return
	}
	r.silent = 0
	if m.View == s.View && r.normal() && m.Gen <= s.Gen {
		r.learn(m.Commit)
		r.agree(m.From)
		return
	}
	if m.Gen < r.committed {
		return
	}
	fresh := r.aim == nil || r.aim.view < m.View || r.aim.view == m.View && r.aim.gen < m.Gen
	if fresh {
		r.aimAt(&aim{from: m.From, view: m.View, gen: m.Gen, commit: m.Commit, head: m.Head})
	}
	r.feed(m.Blocks, fresh)
}

// agree tells the leader what this node has.
func (r *Replica) agree(leader int) {
	s := r.Super()
	r.send(leader, api.Message{Kind: api.MsgOK, View: s.View, Gen: s.Gen, Head: s.Head})
}

func (r *Replica) aimAt(a *aim) {
	a.own = r.bag
	a.Stage = stage.New(a.own, a.head, a.commit)
	r.aim = a
}

// feed gives blocks to the aim, if there is one. With something new of it, it goes on.
func (r *Replica) feed(blocks [][]byte, fresh bool) {
	if r.aim == nil {
		return
	}
	for again := true; again; {
		again = false
		for _, b := range blocks {
			again = r.aim.Take(b) || again
		}
		fresh = fresh || again
	}
	if fresh && !r.reach() {
		r.fetch()
	}
}

// reach makes the aim the head, if all of it is there, and tells whether it is an aim no more.
func (r *Replica) reach() bool {
	done, e := r.aim.Done()
	if e == api.OK && !done {
		return false
	}
	a := r.aim
	r.aim = nil
	s := r.Super()
	if e != api.OK || a.view < s.View || a.gen < r.committed {
		return true
	}
	known := min(max(a.commit, r.committed), a.gen)
	next := api.Super{View: a.view, Normal: a.view, Gen: a.gen, Commit: known, Head: a.head}
	if !r.save(next, a.all()) {
		return true
	}
	r.learn(known)
	if a.lead {
		r.count()
		r.tellAll(api.Message{Kind: api.MsgCommit})
	} else {
		r.agree(a.from)
	}
	return true
}

// all gives what came, and what was there: this node may keep less by now.
func (a *aim) all() api.Bag {
	blocks := a.Blocks()
	maps.Copy(blocks, a.own)
	return blocks
}

// fetch asks for what the aim lacks.
func (r *Replica) fetch() {
	if r.aim == nil {
		return
	}
	if list := r.aim.Want(api.MostHashes); len(list) > 0 {
		r.send(r.aim.from, api.Message{Kind: api.MsgFetch, Hashes: list})
	}
}

func (r *Replica) takeFetch(m api.Message) {
	var blocks [][]byte
	for _, h := range m.Hashes {
		if b, ok := r.bag[h]; ok {
			blocks = append(blocks, b)
		}
	}
	if len(blocks) > 0 {
		r.send(m.From, api.Message{Kind: api.MsgBlocks, Blocks: blocks})
	}
}

func (r *Replica) takeBlocks(m api.Message) { r.feed(m.Blocks, false) }
