package diff

import (
	"bytes"
	"fmt"
	"maps"
	"slices"
	"testing"

	"trireme/api"
	"trireme/commit"
	"trireme/node"
	"trireme/sha"
	"trireme/tree"
)

func call(number uint64, kind int, path string) api.Call {
	return api.Call{Number: number, Op: api.Op{Kind: kind, Path: path}}
}

// chain makes generations one behind the other in one bag, and gives their heads.
func chain(t *testing.T) (api.Bag, []api.Hash) {
	t.Helper()
	head, bag := commit.Begin()
	heads := []api.Hash{head}
	for i, c := range []api.Call{call(1, api.OpMkdir, "/a"), call(2, api.OpCreate, "/a/b"), call(3, api.OpSnap, "s"), call(4, api.OpCreate, "/c"),
		call(5, api.OpCreate, "/a/d"), call(6, api.OpSnap, "a"), call(7, api.OpCreate, "/e"), call(8, api.OpRollback, "s"), call(9, api.OpUnsnap, "a")} {
		for k := range 20 { // so that trees have several Levels
			c.Op.Data = append(c.Op.Data, byte(k))
		}
		next, more, _, e := commit.Next(bag, head, uint64(i), c)
		if e != api.OK {
			t.Fatal(e)
		}
		maps.Copy(bag, more)
		head = next
		heads = append(heads, head)
	}
	return bag, heads
}

func sorted(list []api.Hash) bool {
	return slices.IsSortedFunc(list, func(a, b api.Hash) int { return bytes.Compare(a[:], b[:]) })
}

// P17.1
func TestBetween(t *testing.T) {
	bag, heads := chain(t)
	for i, from := range heads {
		for k, to := range heads {
			had, _ := commit.Hashes(bag, from, 1<<64-1)
			want, _ := commit.Hashes(bag, to, 1<<64-1)
			want = slices.DeleteFunc(want, func(h api.Hash) bool { return slices.Contains(had, h) })
			got, e := Between(bag, from, to)
			if e != api.OK || !slices.Equal(got, want) || (i == k) != (len(got) == 0) || !sorted(got) {
				t.Errorf("%d to %d: %d of %d, %v", i, k, len(got), len(want), e)
			}
		}
	}
	first := maps.Clone(bag)
	delete(first, heads[1])
	if l, e := Between(first, heads[2], heads[3]); e != api.OK || len(l) == 0 {
		t.Errorf("no ancestor is asked for: %v", e)
	}
	r, _ := commit.Read(bag[heads[4]])
	for what, c := range map[string]struct {
		from, to api.Hash
		want     api.Errno
	}{
		"from lost": {heads[1], heads[2], api.ErrLost}, "to lost": {heads[2], heads[1], api.ErrLost}, "from no record": {r.Files, heads[2], api.ErrForm}, "to no record": {heads[2], r.Files, api.ErrForm},
		"from ahead of to": {r.Files, heads[1], api.ErrForm}, "from ahead of to, lost": {heads[1], r.Files, api.ErrLost},
	} {
		if l, e := Between(first, c.from, c.to); e != c.want || len(l) != 0 {
			t.Errorf("%s: %v", what, e)
		}
	}
}

func missing(t *testing.T, what string, bag api.Bag, head api.Hash, keep uint64, want ...api.Hash) {
	t.Helper()
	got, e := Missing(bag, head, keep)
	if e != api.OK || !slices.Equal(got, want) {
		t.Errorf("%s: %x, %v, not %x", what, got, e, want)
	}
}

func wrong(t *testing.T, what string, bag api.Bag, head api.Hash, keep uint64) {
	t.Helper()
	if got, e := Missing(bag, head, keep); e != api.ErrForm || len(got) != 0 {
		t.Errorf("%s: %x, %v", what, got, e)
	}
}

func rising(list ...api.Hash) []api.Hash {
	slices.SortFunc(list, func(a, b api.Hash) int { return bytes.Compare(a[:], b[:]) })
	return slices.Compact(list)
}

// P17.2
func TestMissingStepByStep(t *testing.T) {
	bag, heads := chain(t)
	last := len(heads) - 1
	head := heads[last]
	missing(t, "of nothing", nil, head, 0, head)
	r, _ := commit.Read(bag[head])
	one := api.Bag{head: bag[head]}
	missing(t, "of the record alone", one, head, 1<<64-1, rising(r.Files, r.Snaps, r.Seats)...)
	missing(t, "with keep at its Gen", one, head, uint64(last), rising(r.Files, r.Snaps, r.Seats)...)
	missing(t, "with keep below its Gen", one, head, uint64(last-1), rising(r.Files, r.Snaps, r.Seats, heads[last-1])...)
	one[heads[last-1]] = bag[heads[last-1]]
	missing(t, "a record ahead has no trees", one, head, uint64(last-1), rising(r.Files, r.Snaps, r.Seats)...)
	missing(t, "two records ahead", one, head, uint64(last-2), rising(r.Files, r.Snaps, r.Seats, heads[last-2])...)
	one[r.Snaps] = bag[r.Snaps]
	n, _ := node.Read(bag[r.Snaps])
	missing(t, "a snapshot's files", one, head, uint64(last), rising(r.Files, r.Seats, api.Hash(n.Pairs[0].Value[8:]))...)
	for keep := range uint64(last + 3) {
		missing(t, "of all", bag, head, keep)
	}
}

// P17.2, P17.3: each block that is needed, left out, is missing; with what is missing put in again and again, nothing is missing in the end.
func TestMissingComesToAnEnd(t *testing.T) {
	bag, heads := chain(t)
	for i, head := range heads {
		for keep := range uint64(i + 2) {
			needed, _ := commit.Hashes(bag, head, keep)
			for _, h := range needed {
				less := maps.Clone(bag)
				delete(less, h)
				missing(t, "one left out", less, head, keep, h)
			}
			got := api.Bag{}
			for range 100 {
				list, e := Missing(got, head, keep)
				if e != api.OK || !sorted(list) {
					t.Fatal(e)
				}
				for _, h := range list {
					got[h] = bag[h]
				}
			}
			if list, e := commit.Hashes(got, head, keep); e != api.OK || len(got) != len(needed) || len(list) != len(needed) {
				t.Errorf("%d, keep %d: %d blocks of %d, %v", i, keep, len(got), len(needed), e)
			}
		}
	}
}

func put(t *testing.T, bag api.Bag, block []byte, e api.Errno) api.Hash {
	t.Helper()
	if e != api.OK {
		t.Fatal(e)
	}
	h := sha.Sum(block)
	bag[h] = block
	return h
}

// P17.2
func TestMissingErrors(t *testing.T) {
	bag, heads := chain(t)
	head := heads[8]
	needed, _ := commit.Hashes(bag, head, 5)
	for _, h := range needed {
		bad := maps.Clone(bag)
		bad[h] = append(bytes.Clone(bad[h]), 0)
		wrong(t, "another text", bad, head, 5)
		bad[h] = nil
		wrong(t, "no text", bad, head, 5)
	}
	r, _ := commit.Read(bag[head])
	wrong(t, "a tree as the head", bag, r.Files, 0)
	var n api.Node
	n.Pairs = []api.Pair{{Key: []byte("a"), Value: make([]byte, 39)}}
	write := func(n api.Node) api.Hash {
		b, e := node.Write(n)
		return put(t, bag, b, e)
	}
	change := func(f func(r *api.Record)) api.Hash {
		r := r
		f(&r)
		b, e := commit.Write(r)
		return put(t, bag, b, e)
	}
	leaf, junk := write(n), put(t, bag, []byte("junk"), api.OK)
	inner := write(api.Node{Level: 1, Kids: []api.Kid{{Hash: leaf}}})
	high := write(api.Node{Level: 2, Kids: []api.Kid{{Hash: leaf}}})
	lost := write(api.Node{Level: 9, Kids: []api.Kid{{Hash: api.Hash{7}}}})
	for what, h := range map[string]api.Hash{
		"files junk": change(func(r *api.Record) { r.Files = junk }), "seats junk": change(func(r *api.Record) { r.Seats = junk }), "snaps junk": change(func(r *api.Record) { r.Snaps = junk }),
		"files a record": change(func(r *api.Record) { r.Files = heads[1] }), "snaps' values short": change(func(r *api.Record) { r.Snaps = leaf }), "below": change(func(r *api.Record) { r.Snaps = inner }),
		"another Level": change(func(r *api.Record) { r.Files = high }), "another Level of seats": change(func(r *api.Record) { r.Seats = high }),
		"a Parent junk": change(func(r *api.Record) { r.Parent = junk }), "a Parent a tree": change(func(r *api.Record) { r.Parent = r.Files }),
		"also where something is missing": change(func(r *api.Record) { r.Files, r.Seats = lost, junk }), "the other way": change(func(r *api.Record) { r.Seats, r.Files = lost, junk }),
	} {
		wrong(t, what, bag, h, 5)
	}
	missing(t, "any Level, any pairs", bag, change(func(r *api.Record) { r.Files, r.Seats = inner, leaf }), 5)
	missing(t, "a Parent isn't asked for", bag, change(func(r *api.Record) { r.Parent = junk }), 8)
	missing(t, "a digest is missing once", bag, change(func(r *api.Record) { r.Files, r.Seats, r.Snaps, r.Parent = lost, lost, lost, api.Hash{7} }), 5, api.Hash{7})
	missing(t, "a Parent's Gen is of no account", bag, change(func(r *api.Record) { r.Parent = heads[2] }), 5)
}

// P1, P17.2: the same tree as files and as snapshots; nodes that have one kid four times.
func TestMetAsSeveralThings(t *testing.T) {
	bag := api.Bag{}
	root, more, _ := tree.Build([]api.Pair{{Key: []byte("a"), Value: []byte("short")}})
	maps.Copy(bag, more)
	b, e := commit.Write(api.Record{Files: root, Snaps: root, Seats: root})
	wrong(t, "as files it is right", bag, put(t, bag, b, e), 0)
	var h api.Hash
	block, e := node.Write(api.Node{Pairs: []api.Pair{{Key: []byte("a"), Value: make([]byte, 40)}}})
	h = put(t, bag, block, e)
	for level := 1; level <= 15; level++ {
		n := api.Node{Level: level}
		for i := range 4 {
			n.Kids = append(n.Kids, api.Kid{First: []byte{byte(i)}, Hash: h})
		}
		block, e := node.Write(n)
		h = put(t, bag, block, e)
	}
	b, e = commit.Write(api.Record{Files: h, Snaps: h, Seats: h})
	missing(t, "noughts", bag, put(t, bag, b, e), 0, api.Hash{})
}

// P17.4
func TestCut(t *testing.T) {
	var list []api.Hash
	for i := range 7 {
		list = append(list, api.Hash{byte(i)})
	}
	for _, c := range []struct {
		n, most int
		want    []int
	}{
		{0, 3, nil}, {0, 0, nil}, {0, -1, nil}, {7, 3, []int{3, 3, 1}}, {6, 3, []int{3, 3}}, {7, 7, []int{7}}, {7, 8, []int{7}}, {7, 1<<63 - 1, []int{7}},
		{7, 1, []int{1, 1, 1, 1, 1, 1, 1}}, {7, 0, []int{7}}, {7, -1, []int{7}}, {7, -1 << 63, []int{7}},
	} {
		got := Cut(list[:c.n], c.most)
		var sizes []int
		for _, g := range got {
			sizes = append(sizes, len(g))
		}
		if !slices.Equal(sizes, c.want) || !slices.Equal(slices.Concat(got...), list[:c.n]) {
			t.Errorf("%d by %d: %v", c.n, c.most, sizes)
		}
	}
}

// P17.5
func TestNothingShared(t *testing.T) {
	list := []api.Hash{{1}, {2}, {3}, {4}, {5}}
	groups := Cut(list, 2)
	groups[0] = append(groups[0], api.Hash{9})
	groups[1][0] = api.Hash{8}
	if fmt.Sprint(list) != fmt.Sprint([]api.Hash{{1}, {2}, {3}, {4}, {5}}) || groups[1][1] != (api.Hash{4}) {
		t.Error("Cut shares memory")
	}
	bag, heads := chain(t)
	before := fmt.Sprint(bag)
	Between(bag, heads[0], heads[3])
	Missing(bag, heads[3], 0)
	if fmt.Sprint(bag) != before {
		t.Error("a bag was changed")
	}
}
