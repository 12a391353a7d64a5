package replica

import (
	"math"

	"trireme/api"
	"trireme/vote"
)

// Tick lets time go on.
func (r *Replica) Tick() {
	if r.down {
		return
	}
	elder := r.aim
	r.silent++
	switch {
	case r.leads():
		r.silent = 0
		r.count()
		r.tellAll(api.Message{Kind: api.MsgCommit})
	case r.silent >= patience:
		if view := r.Super().View; view < math.MaxUint64 {
			r.goOn(view + 1)
		}
		fallthrough
	case !r.normal():
		r.plead()
	}
	if r.aim == elder { // else it was asked for just now
		r.fetch()
	}
}

// goOn comes to a later view, in which this node isn't normal yet.
func (r *Replica) goOn(view uint64) {
	s := r.Super()
	s.View, s.Commit = view, r.committed
	if !r.save(s, nil) {
		return
	}
	r.silent = 0
	if r.aim != nil && r.aim.view < view {
		r.aim = nil
	}
}

// plead tells all others what this node has come to its view with.
func (r *Replica) plead() {
	if r.normal() {
		return
	}
	r.tellAll(api.Message{Kind: api.MsgViewChange, Normal: r.Super().Normal})
	r.elect()
}

func (r *Replica) takeViewChange(m api.Message) {
	if m.View > r.Super().View {
		r.goOn(m.View)
		if m.View != r.Super().View {
			return
		}
		r.plead()
	}
	if m.View == r.Super().View && !r.normal() {
		r.votes = vote.Add(r.votes, api.Vote{Node: m.From, View: m.View, Normal: m.Normal, Gen: m.Gen, Commit: m.Commit, Head: m.Head})
		r.elect()
	}
}

// elect goes for the head with which this node is to lead, once more than half have told theirs.
func (r *Replica) elect() {
	if r.down || r.normal() || r.primary() != r.me {
		return
	}
	s := r.Super()
	r.votes = vote.Add(r.votes, api.Vote{Node: r.me, View: s.View, Normal: s.Normal, Gen: s.Gen, Commit: r.committed, Head: s.Head})
	best, known, ok := vote.Choose(r.votes, s.View, r.nodes)
	if !ok || best.Gen < r.committed {
		return
	}
	if a := r.aim; a != nil && (a.view > s.View || a.from == best.Node && a.head == best.Head && a.commit == known) {
		return
	}
	r.aimAt(&aim{from: best.Node, view: s.View, gen: best.Gen, commit: known, head: best.Head, lead: true})
	r.feed(nil, true)
}
