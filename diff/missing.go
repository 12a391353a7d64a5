package diff

import (
	"trireme/api"
	"trireme/commit"
	"trireme/node"
	"trireme/order"
	"trireme/sha"
)

// What a digest is met as.
const (
	asHead   = iota // the record whose trees count
	asRecord        // a record ahead of it
	asTree
	asSnaps // a tree of snapshots, whose values end with digests of trees
)

const (
	anyLevel  = -1
	snapSize  = 40 // bytes of a snapshot's value
	snapStart = snapSize - len(api.Hash{})
)

// met is a digest, what it is met as, and the Level that its node must be of.
type met struct {
	hash      api.Hash
	as, level int
}

// walk goes through all that is met; what was met once isn't gone through again, so that it ends.
type walk struct {
	bag     api.Bag
	keep    uint64
	seen    map[met]struct{}
	waiting []met
	missing map[api.Hash]struct{}
}

// Missing gives what a bag lacks of a generation, as far as can be told.
func Missing(bag api.Bag, head api.Hash, keep uint64) ([]api.Hash, api.Errno) {
	w := &walk{bag: bag, keep: keep, seen: map[met]struct{}{}, missing: map[api.Hash]struct{}{}}
	w.meet(head, asHead, anyLevel)
	for len(w.waiting) > 0 {
		last := len(w.waiting) - 1
		m := w.waiting[last]
		w.waiting = w.waiting[:last]
		if e := w.visit(m); e != api.OK {
			return nil, e
		}
	}
	return order.Hashes(w.missing), api.OK
}

func (w *walk) meet(h api.Hash, as, level int) {
	m := met{h, as, level}
	if _, ok := w.seen[m]; !ok {
		w.seen[m] = struct{}{}
		w.waiting = append(w.waiting, m)
	}
}

// visit looks at one thing that was met, and meets what it leads to.
func (w *walk) visit(m met) api.Errno {
	block, ok := w.bag[m.hash]
	if !ok {
		w.missing[m.hash] = struct{}{}
		return api.OK
	}
	if sha.Sum(block) != m.hash {
		return api.ErrForm
	}
	if m.as == asHead || m.as == asRecord {
		return w.visitRecord(block, m.as)
	}
	return w.visitNode(block, m)
}

func (w *walk) visitRecord(block []byte, as int) api.Errno {
	r, e := commit.Read(block)
	if e != api.OK {
		return api.ErrForm
	}
	if as == asHead {
		w.meet(r.Files, asTree, anyLevel)
		w.meet(r.Seats, asTree, anyLevel)
		w.meet(r.Snaps, asSnaps, anyLevel)
	}
	if r.Gen > w.keep {
		w.meet(r.Parent, asRecord, anyLevel)
	}
	return api.OK
}

func (w *walk) visitNode(block []byte, m met) api.Errno {
	n, e := node.Read(block)
	if e != api.OK || m.level != anyLevel && n.Level != m.level {
		return api.ErrForm
	}
	for _, kid := range n.Kids {
		w.meet(kid.Hash, m.as, n.Level-1)
	}
	if m.as != asSnaps {
		return api.OK
	}
	for _, p := range n.Pairs {
		if len(p.Value) != snapSize {
			return api.ErrForm
		}
		w.meet(api.Hash(p.Value[snapStart:]), asTree, anyLevel)
	}
	return api.OK
}
