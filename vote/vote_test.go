package vote

import (
	"fmt"
	"math/rand"
	"slices"
	"testing"

	"trireme/api"
)

// P20.1
func TestMajorityAndPrimary(t *testing.T) {
	for nodes, want := range map[int]int{-1 << 63: 1, -1: 1, 0: 1, 1: 1, 2: 2, 3: 2, 4: 3, 5: 3, 6: 4, 7: 4, 1<<63 - 1: 1 << 62} {
		if got := Majority(nodes); got != want {
			t.Errorf("Majority(%d): %d", nodes, got)
		}
	}
	for _, c := range []struct {
		view  uint64
		nodes int
		want  int
	}{{0, 3, 0}, {1, 3, 1}, {5, 3, 2}, {6, 3, 0}, {1<<64 - 1, 7, 1}, {1<<64 - 1, 1, 0}, {9, 0, 0}, {9, -1, 0}, {9, -1 << 63, 0}, {9, 1<<63 - 1, 9}, {1<<64 - 1, 1<<63 - 1, 1}} {
		if got := Primary(c.view, c.nodes); got != c.want {
			t.Errorf("Primary(%d, %d): %d", c.view, c.nodes, got)
		}
	}
}

func v(node int, view, normal, gen, commit uint64, head byte) api.Vote {
	return api.Vote{Node: node, View: view, Normal: normal, Gen: gen, Commit: commit, Head: api.Hash{31: head}}
}

// P20.2
func TestAdd(t *testing.T) {
	list := []api.Vote{v(-1, 5, 1, 1, 1, 1), v(2, 5, 1, 1, 1, 1), v(4, 5, 1, 1, 1, 1)}
	before := slices.Clone(list)
	for _, x := range []api.Vote{v(-3, 1, 0, 0, 0, 0), v(0, 0, 0, 0, 0, 0), v(3, 9, 0, 0, 0, 0), v(7, 1, 0, 0, 0, 0)} {
		want := append(slices.Clone(list), x)
		slices.SortFunc(want, func(a, b api.Vote) int { return a.Node - b.Node })
		if got := Add(list, x); !slices.Equal(got, want) {
			t.Errorf("Add of %v: %v", x, got)
		}
	}
	for view, takes := range map[uint64]bool{4: false, 5: true, 6: true, 0: false} {
		x := v(2, view, 0, 0, 0, 9)
		want := slices.Clone(list)
		if takes {
			want[1] = x
		}
		if got := Add(list, x); !slices.Equal(got, want) {
			t.Errorf("Add of View %d: %v", view, got)
		}
	}
	if !slices.Equal(list, before) {
		t.Error("the list was changed")
	}
	if got := Add(nil, list[0]); !slices.Equal(got, list[:1]) {
		t.Errorf("%v", got)
	}
	Add([]api.Vote{v(5, 0, 0, 0, 0, 0), v(1, 0, 0, 0, 0, 0), v(5, 1, 0, 0, 0, 0)}, v(3, 0, 0, 0, 0, 0)) // P1
}

// P20.3
func TestChoose(t *testing.T) {
	for what, c := range map[string]struct {
		list  []api.Vote
		nodes int
		want  api.Vote
		at    uint64
		ok    bool
	}{
		"the chapter's":         {[]api.Vote{v(0, 9, 1, 5, 0, 1), v(2, 9, 2, 3, 0, 2)}, 3, v(2, 9, 2, 3, 0, 2), 0, true},
		"a single one":          {[]api.Vote{v(0, 9, 1, 5, 0, 1)}, 3, api.Vote{}, 0, false},
		"none":                  {nil, 3, api.Vote{}, 0, false},
		"none of one":           {nil, 1, api.Vote{}, 0, false},
		"none of none":          {nil, 0, api.Vote{}, 0, false},
		"a single node":         {[]api.Vote{v(0, 9, 1, 5, 4, 1)}, 1, v(0, 9, 1, 5, 4, 1), 4, true},
		"nodes below 1":         {[]api.Vote{v(0, 9, 1, 5, 4, 1)}, -5, v(0, 9, 1, 5, 4, 1), 4, true},
		"one node twice":        {[]api.Vote{v(0, 9, 1, 5, 0, 1), v(0, 9, 1, 6, 0, 1)}, 3, api.Vote{}, 0, false},
		"another View":          {[]api.Vote{v(0, 9, 1, 5, 0, 1), v(1, 8, 1, 6, 0, 1), v(2, 10, 1, 6, 0, 1)}, 3, api.Vote{}, 0, false},
		"others don't count":    {[]api.Vote{v(0, 9, 1, 5, 2, 1), v(1, 8, 7, 6, 9, 1), v(2, 9, 1, 4, 3, 1)}, 3, v(0, 9, 1, 5, 2, 1), 3, true},
		"by Gen":                {[]api.Vote{v(0, 9, 1, 5, 0, 9), v(1, 9, 1, 6, 0, 1)}, 3, v(1, 9, 1, 6, 0, 1), 0, true},
		"by Head":               {[]api.Vote{v(0, 9, 1, 5, 0, 1), v(1, 9, 1, 5, 0, 2)}, 3, v(1, 9, 1, 5, 0, 2), 0, true},
		"by Node":               {[]api.Vote{v(1, 9, 1, 5, 3, 1), v(0, 9, 1, 5, 0, 1)}, 3, v(0, 9, 1, 5, 0, 1), 3, true},
		"by Commit":             {[]api.Vote{v(1, 9, 1, 5, 0, 1), v(1, 9, 1, 5, 3, 1), v(1, 9, 1, 5, 2, 1), v(2, 9, 0, 0, 0, 0)}, 3, v(1, 9, 1, 5, 3, 1), 3, true},
		"two of five":           {[]api.Vote{v(1, 9, 1, 5, 0, 1), v(3, 9, 1, 5, 3, 1)}, 5, api.Vote{}, 0, false},
		"three of five":         {[]api.Vote{v(1, 9, 1, 5, 0, 1), v(3, 9, 1, 7, 0, 1), v(4, 9, 1, 5, 3, 1)}, 5, v(3, 9, 1, 7, 0, 1), 3, true},
		"zero votes are votes":  {[]api.Vote{v(0, 0, 0, 0, 0, 0), v(1, 0, 0, 0, 0, 0)}, 3, v(0, 0, 0, 0, 0, 0), 0, true},
		"nodes of any number":   {[]api.Vote{v(-7, 9, 1, 5, 0, 1), v(99, 9, 1, 5, 0, 1)}, 3, v(-7, 9, 1, 5, 0, 1), 0, true},
		"the greatest Commit":   {[]api.Vote{v(0, 9, 1, 5, 1<<64-1, 1), v(1, 9, 2, 5, 0, 1)}, 3, v(1, 9, 2, 5, 0, 1), 1<<64 - 1, true},
		"a first byte of Heads": {[]api.Vote{{Node: 0, View: 9, Head: api.Hash{1}}, {Node: 1, View: 9, Head: api.Hash{0, 2}}}, 3, api.Vote{Node: 0, View: 9, Head: api.Hash{1}}, 0, true},
	} {
		before := fmt.Sprint(c.list)
		got, at, ok := Choose(c.list, 9*uint64(min(len(c.list), 1)), c.nodes)
		if what == "zero votes are votes" {
			got, at, ok = Choose(c.list, 0, c.nodes)
		}
		if got != c.want || at != c.at || ok != c.ok || fmt.Sprint(c.list) != before {
			t.Errorf("%s: %v, %d, %t", what, got, at, ok)
		}
	}
}

// P2, P20.3: the order in which votes came is of no account.
func TestAnyOrder(t *testing.T) {
	rnd := rand.New(rand.NewSource(8))
	for range 300 {
		var list []api.Vote
		for range 1 + rnd.Intn(7) {
			list = append(list, v(rnd.Intn(4), uint64(rnd.Intn(2)), uint64(rnd.Intn(2)), uint64(rnd.Intn(2)), uint64(rnd.Intn(3)), byte(rnd.Intn(2))))
		}
		one, at, ok := Choose(list, 1, 3)
		rnd.Shuffle(len(list), func(i, k int) { list[i], list[k] = list[k], list[i] })
		two, too, fine := Choose(list, 1, 3)
		if one != two || at != too || ok != fine {
			t.Fatalf("%v: %v, %v", list, one, two)
		}
	}
}

// P20.4
func TestNothingShared(t *testing.T) {
	list := make([]api.Vote, 2, 8)
	list[0], list[1] = v(0, 1, 1, 1, 1, 1), v(2, 1, 1, 1, 1, 1)
	next := Add(list, v(1, 1, 1, 1, 1, 1))
	for i := range next[:cap(next)] {
		next[:cap(next)][i] = api.Vote{Node: 77}
	}
	for _, x := range list[:cap(list)] {
		if x.Node == 77 {
			t.Error("Add shares memory")
		}
	}
	if list[:8][2] != (api.Vote{}) {
		t.Error("spare room was changed")
	}
}
