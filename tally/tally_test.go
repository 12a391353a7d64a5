package tally

import (
	"slices"
	"testing"

	"trireme/api"
)

// P21.1
func TestAdd(t *testing.T) {
	list := []api.Mark{{Node: -1, Gen: 5}, {Node: 2, Gen: 5}, {Node: 4, Gen: 5}}
	before := slices.Clone(list)
	for _, m := range []api.Mark{{Node: -9, Gen: 1}, {Node: 0}, {Node: 3, Gen: 9}, {Node: 5, Gen: 1<<64 - 1}} {
		want := append(slices.Clone(list), m)
		slices.SortFunc(want, func(a, b api.Mark) int { return a.Node - b.Node })
		if got := Add(list, m); !slices.Equal(got, want) {
			t.Errorf("Add of %v: %v", m, got)
		}
	}
	for gen, want := range map[uint64]uint64{4: 5, 5: 5, 6: 6, 0: 5, 1<<64 - 1: 1<<64 - 1} {
		if got := Add(list, api.Mark{Node: 2, Gen: gen}); !slices.Equal(got, []api.Mark{list[0], {Node: 2, Gen: want}, list[2]}) {
			t.Errorf("Add of Gen %d: %v", gen, got)
		}
	}
	if !slices.Equal(list, before) {
		t.Error("the list was changed")
	}
	Add([]api.Mark{{Node: 5}, {Node: 1}, {Node: 5}}, api.Mark{Node: 3}) // P1
}

func marks(gens ...uint64) (list []api.Mark) {
	for i, g := range gens {
		list = append(list, api.Mark{Node: i, Gen: g})
	}
	return list
}

// P21.2
func TestCommit(t *testing.T) {
	for _, c := range []struct {
		list  []api.Mark
		nodes int
		want  uint64
	}{
		{marks(5, 3, 9), 3, 5}, {marks(5, 3, 9), 5, 3}, {marks(5, 3), 5, 0}, {nil, 3, 0}, {nil, 0, 0}, {marks(7), 1, 7}, {marks(7), 3, 0}, {marks(7), -3, 7}, {marks(7, 9), 0, 9},
		{marks(5, 5, 5), 3, 5}, {marks(0, 0, 9), 3, 0}, {marks(9, 9, 0), 3, 9}, {marks(1, 2, 3, 4, 5, 6, 7), 7, 4}, {marks(1, 2, 3, 4, 5, 6, 7), 3, 6}, {marks(1<<64-1, 1<<64-1), 3, 1<<64 - 1},
		{[]api.Mark{{Node: 1, Gen: 9}, {Node: 1, Gen: 8}, {Node: 1, Gen: 9}}, 3, 0},
		{[]api.Mark{{Node: 1, Gen: 4}, {Node: 2, Gen: 3}, {Node: 1, Gen: 9}, {Node: 2, Gen: 1}}, 3, 3},
		{[]api.Mark{{Node: -1, Gen: 4}, {Node: 200, Gen: 6}}, 3, 4}, {marks(1, 2), 1<<63 - 1, 0},
	} {
		before := slices.Clone(c.list)
		if got := Commit(c.list, c.nodes); got != c.want || !slices.Equal(c.list, before) {
			t.Errorf("Commit of %v, %d: %d, not %d", c.list, c.nodes, got, c.want)
		}
	}
}

// P21.3
func TestNothingShared(t *testing.T) {
	list := make([]api.Mark, 2, 8)
	list[0], list[1] = api.Mark{Node: 0, Gen: 1}, api.Mark{Node: 2, Gen: 1}
	for _, m := range []api.Mark{{Node: 1, Gen: 1}, {Node: 2, Gen: 5}, {Node: 2, Gen: 0}} {
		next := Add(list, m)
		for i := range next[:cap(next)] {
			next[:cap(next)][i] = api.Mark{Node: 77}
		}
	}
	if list[0].Gen != 1 || list[1] != (api.Mark{Node: 2, Gen: 1}) || list[:8][2] != (api.Mark{}) {
		t.Error("Add shares memory")
	}
}
