package stage

import (
	"bytes"
	"fmt"
	"maps"
	"math/rand"
	"slices"
	"testing"

	"trireme/api"
	"trireme/commit"
	"trireme/diff"
	"trireme/node"
	"trireme/sha"
)

// chain makes generations one behind the other in one bag, and gives their heads.
func chain(t *testing.T) (api.Bag, []api.Hash) {
	t.Helper()
	head, bag := commit.Begin()
	heads := []api.Hash{head}
	for i, o := range []api.Op{{Kind: api.OpMkdir, Path: "/a"}, {Kind: api.OpCreate, Path: "/a/b"}, {Kind: api.OpSnap, Path: "s"}, {Kind: api.OpCreate, Path: "/c"},
		{Kind: api.OpWrite, Path: "/c", Data: bytes.Repeat([]byte("x"), 64)}, {Kind: api.OpWrite, Path: "/c", Off: 64, Data: bytes.Repeat([]byte("y"), 64)}, {Kind: api.OpSnap, Path: "t"}, {Kind: api.OpMkdir, Path: "/d"}} {
		next, more, _, e := commit.Next(bag, head, 0, api.Call{Number: uint64(i + 1), Op: o})
		if e != api.OK {
			t.Fatal(e)
		}
		maps.Copy(bag, more)
		head = next
		heads = append(heads, head)
	}
	return bag, heads
}

func all(s *Stage) []api.Hash { return s.Want(1 << 30) }

func done(t *testing.T, what string, s *Stage, want bool, e api.Errno) {
	t.Helper()
	if got, f := s.Done(); got != want || f != e {
		t.Errorf("%s: Done %t, %v", what, got, f)
	}
}

// P18.1, P18.2
func TestFromNothing(t *testing.T) {
	bag, heads := chain(t)
	head := heads[len(heads)-1]
	s := New(nil, head, 3)
	if !slices.Equal(all(s), []api.Hash{head}) || len(s.Blocks()) != 0 {
		t.Errorf("%x", all(s))
	}
	own := api.Bag{}
	for range 1000 {
		want, e := diff.Missing(own, head, 3)
		if e != api.OK || !slices.Equal(all(s), want) {
			t.Fatalf("%x, not %x, %v", all(s), want, e)
		}
		done(t, "on its way", s, len(want) == 0, api.OK)
		if len(want) == 0 {
			break
		}
		for _, most := range []int{-1 << 63, -1, 0, 1, 2, len(want), 1<<63 - 1} {
			if got := s.Want(most); !slices.Equal(got, want[:max(0, min(most, len(want)))]) {
				t.Errorf("Want(%d): %x", most, got)
			}
		}
		h := want[len(want)/2]
		own[h] = bag[h]
		if !s.Take(bag[h]) || s.Take(bag[h]) {
			t.Error("a block that is wanted once")
		}
		if fmt.Sprint(s.Blocks()) != fmt.Sprint(own) {
			t.Error("Blocks")
		}
	}
	if list, e := commit.Hashes(s.Blocks(), head, 3); e != api.OK || len(list) != len(s.Blocks()) {
		t.Error(e)
	}
}

// P18.1, P18.2: what is there already isn't wanted, and doesn't come.
func TestWithOwn(t *testing.T) {
	bag, heads := chain(t)
	had, _ := commit.Hashes(bag, heads[4], 2)
	own := api.Bag{}
	for _, h := range had {
		own[h] = bag[h]
	}
	s := New(own, heads[5], 4)
	more, _ := diff.Between(bag, heads[4], heads[5])
	for range len(more) {
		for _, h := range had {
			if s.Take(bag[h]) {
				t.Error("a block that was there")
			}
		}
		for _, h := range more {
			s.Take(bag[h])
		}
	}
	done(t, "all", s, true, api.OK)
	if got := slices.SortedFunc(maps.Keys(s.Blocks()), func(a, b api.Hash) int { return bytes.Compare(a[:], b[:]) }); !slices.Equal(got, more) {
		t.Errorf("%d came, not %d", len(got), len(more))
	}
	done(t, "nothing is missing from the beginning on", New(bag, heads[5], 0), true, api.OK)
}

// P18.2
func TestNotWanted(t *testing.T) {
	bag, heads := chain(t)
	s := New(nil, heads[3], 0)
	for h, b := range bag {
		if h != heads[3] && s.Take(b) {
			t.Error("a block that nobody asked for")
		}
	}
	for _, b := range [][]byte{nil, []byte("junk"), bag[heads[3]][1:], append(bytes.Clone(bag[heads[3]]), 0)} {
		if s.Take(b) {
			t.Error("a block of another digest")
		}
	}
	for n, want := range map[int]bool{470: true, 471: false, 512: false, 70000: false} {
		long := make([]byte, n)
		if New(nil, sha.Sum(long), 0).Take(long) != want {
			t.Errorf("a block of %d bytes", n)
		}
	}
}

// P18.1, P18.2: with a wrong block nothing is wanted any more.
func TestWrong(t *testing.T) {
	bag, heads := chain(t)
	r, _ := commit.Read(bag[heads[4]])
	leaf, _ := node.Write(api.Node{Pairs: []api.Pair{{Key: []byte("a"), Value: []byte("b")}}})
	r.Snaps = sha.Sum(leaf)
	block, _ := commit.Write(r)
	head := sha.Sum(block)
	s := New(nil, head, 9)
	if !s.Take(block) || !s.Take(leaf) {
		t.Fatal("both were wanted")
	}
	done(t, "a wrong tree of snapshots", s, false, api.ErrForm)
	if len(all(s)) != 0 || s.Take(bag[r.Files]) || len(s.Blocks()) != 2 {
		t.Error("something is wanted, or came")
	}
	own := maps.Clone(bag)
	own[r.Files] = []byte("x")
	s = New(own, heads[4], 0)
	done(t, "a wrong block from the beginning on", s, false, api.ErrForm)
	if len(all(s)) != 0 {
		t.Error("something is wanted")
	}
}

// P18.3
func TestAnyOrder(t *testing.T) {
	bag, heads := chain(t)
	rnd := rand.New(rand.NewSource(7))
	for range 40 {
		head := heads[rnd.Intn(len(heads))]
		keep := uint64(rnd.Intn(10))
		var blocks [][]byte
		for _, b := range bag {
			if rnd.Intn(20) > 0 {
				blocks = append(blocks, b)
			}
		}
		var ends []string
		for range 3 {
			s := New(nil, head, keep)
			for any := true; any; {
				any = false
				rnd.Shuffle(len(blocks), func(i, k int) { blocks[i], blocks[k] = blocks[k], blocks[i] })
				for _, b := range blocks {
					any = s.Take(b) || any
					if s.Take(b) {
						t.Fatal("a block came twice")
					}
				}
			}
			got, e := s.Done()
			ends = append(ends, fmt.Sprint(s.Blocks(), all(s), got, e))
		}
		if ends[0] != ends[1] || ends[1] != ends[2] {
			t.Fatal("the order is seen in what has come")
		}
	}
}

// P18.4
func TestNothingShared(t *testing.T) {
	bag, heads := chain(t)
	own := api.Bag{heads[3]: bytes.Clone(bag[heads[3]])}
	s := New(own, heads[3], 9)
	clear(own[heads[3]])
	delete(own, heads[3])
	first := all(s)
	if len(first) == 0 || first[0] == heads[3] {
		t.Fatal("a bag was kept")
	}
	block := bytes.Clone(bag[first[0]])
	s.Take(block)
	clear(block)
	second := all(s)
	for i := range second[:cap(second)] {
		second[:cap(second)][i] = api.Hash{}
	}
	blocks := s.Blocks()
	if !bytes.Equal(blocks[first[0]], bag[first[0]]) {
		t.Error("a block was kept")
	}
	for _, b := range blocks {
		clear(b)
	}
	clear(blocks)
	for range 20 {
		for _, b := range bag {
			s.Take(b)
		}
	}
	done(t, "what was answered is shared", s, true, api.OK)
}
