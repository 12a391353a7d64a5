package shape

import (
	"fmt"
	"hash/fnv"
	"math/rand"
	"slices"
	"testing"

	"trireme/api"
)

// markOf is P6.1 by the library's own hash and by division.
func markOf(key string, level int) bool {
	f := fnv.New32a()
	f.Write([]byte(key))
	h := uint64(f.Sum32())
	for range level {
		h /= 4
	}
	return h%4 == 0
}

// key gives a text that is marked at a level, or isn't.
func key(t *testing.T, level int, marked bool, number int) string {
	t.Helper()
	for i := 0; ; i++ {
		k := fmt.Sprintf("%03d%d", number, i)
		if markOf(k, level) == marked {
			return k
		}
	}
}

// P6.1
func TestMark(t *testing.T) {
	if Mark(nil, 0) || Mark([]byte{}, 0) {
		t.Error("the empty key at level 0")
	}
	marked := 0
	for i := range 500 {
		k := fmt.Sprint("k\xff\x00", i)
		for level := range 16 {
			if Mark([]byte(k), level) != markOf(k, level) {
				t.Errorf("%q at level %d", k, level)
			}
		}
		if Mark([]byte(k), 15) {
			marked++
		}
		for _, level := range []int{-1 << 63, -1, 16, 17, 32, 1<<63 - 1} {
			if Mark([]byte(k), level) {
				t.Errorf("%q at level %d", k, level)
			}
		}
	}
	if marked == 0 {
		t.Error("nothing is marked at level 15")
	}
}

func pair(key string, value int) api.Pair {
	return api.Pair{Key: []byte(key), Value: make([]byte, value)}
}

// P6.2
func TestLeavesEdges(t *testing.T) {
	no := func(i int) string { return key(t, 0, false, i) }
	sized := func(k string, size int) api.Pair { return pair(k, size-4-len(k)) }
	yes := key(t, 0, true, 9)
	for _, c := range []struct {
		what  string
		pairs []api.Pair
		want  []int
	}{
		{"nothing", nil, []int{0}},
		{"one", []api.Pair{pair(no(1), 0)}, []int{1}},
		{"one that is marked", []api.Pair{pair(yes, 0)}, []int{1}},
		{"200 bytes", []api.Pair{sized(no(1), 100), sized(no(2), 100)}, []int{2}},
		{"201 bytes", []api.Pair{sized(no(1), 100), sized(no(2), 101)}, []int{1, 1}},
		{"201 bytes by the key", []api.Pair{sized(no(1), 100), sized(no(2)+"", 100), sized(no(3), 8)}, []int{2, 1}},
		{"a great one alone", []api.Pair{sized(no(1), 900), sized(no(2), 20), sized(no(3), 180)}, []int{1, 2}},
		{"a great one last", []api.Pair{sized(no(1), 20), sized(no(2), 900)}, []int{1, 1}},
		{"marked in the middle", []api.Pair{sized(no(1), 20), sized(yes, 20), sized(no(2), 20)}, []int{2, 1}},
		{"marked last", []api.Pair{sized(no(1), 20), sized(yes, 20)}, []int{2}},
		{"marked first", []api.Pair{sized(yes, 20), sized(no(1), 20)}, []int{1, 1}},
		{"too great, and marked", []api.Pair{sized(no(1), 150), sized(yes, 60), sized(no(2), 20)}, []int{1, 1, 1}},
	} {
		if got := Leaves(c.pairs); !slices.Equal(got, c.want) {
			t.Errorf("%s: %v, not %v", c.what, got, c.want)
		}
	}
}

// leavesOf is P6.2 by its words.
func leavesOf(pairs []api.Pair) (groups []int) {
	n, sum := 0, 0
	for _, p := range pairs {
		size := 4 + len(p.Key) + len(p.Value)
		if n > 0 && sum+size > 200 {
			groups, n, sum = append(groups, n), 0, 0
		}
		n, sum = n+1, sum+size
		if markOf(string(p.Key), 0) {
			groups, n, sum = append(groups, n), 0, 0
		}
	}
	if n > 0 || len(pairs) == 0 {
		groups = append(groups, n)
	}
	return groups
}

// innerOf is P6.3 by its words.
func innerOf(firsts [][]byte, level int) (groups []int) {
	n := 0
	for _, f := range firsts {
		n++
		if n == 4 || n >= 2 && level >= 0 && level <= 15 && markOf(string(f), level) {
			groups, n = append(groups, n), 0
		}
	}
	if n > 0 {
		groups = append(groups, n)
	}
	return groups
}

// P6.2, P6.3, P6.4
func TestAgainstTheWords(t *testing.T) {
	rnd := rand.New(rand.NewSource(2))
	for range 2000 {
		var pairs []api.Pair
		var firsts [][]byte
		for range rnd.Intn(30) {
			k := fmt.Sprint(rnd.Int63n(1 << uint(1+rnd.Intn(60))))
			pairs = append(pairs, pair(k, rnd.Intn(1+rnd.Intn(220))))
			firsts = append(firsts, []byte(k))
		}
		if got, want := Leaves(pairs), leavesOf(pairs); !slices.Equal(got, want) {
			t.Fatalf("Leaves: %v, not %v", got, want)
		}
		level := rnd.Intn(19) - 1
		got := Inner(firsts, level)
		if want := innerOf(firsts, level); !slices.Equal(got, want) {
			t.Fatalf("Inner of level %d: %v, not %v", level, got, want)
		}
		if len(firsts) > 1 && len(got) >= len(firsts) {
			t.Fatalf("%d kids in %d groups", len(firsts), len(got))
		}
	}
}

// P6.3
func TestInnerEdges(t *testing.T) {
	firsts := func(level int, marks ...bool) (list [][]byte) {
		for i, m := range marks {
			list = append(list, []byte(key(t, level, m, i)))
		}
		return list
	}
	for _, c := range []struct {
		level int
		marks []bool
		want  []int
	}{
		{1, nil, nil}, {1, []bool{false}, []int{1}}, {1, []bool{true}, []int{1}},
		{1, []bool{true, false}, []int{2}}, {1, []bool{true, true, true}, []int{2, 1}},
		{3, []bool{false, true, false}, []int{2, 1}}, {3, []bool{true, false, true, false}, []int{3, 1}},
		{15, []bool{false, false, false, false, false}, []int{4, 1}},
		{15, []bool{false, false, false, true, true, true}, []int{4, 2}},
	} {
		if got := Inner(firsts(c.level, c.marks...), c.level); !slices.Equal(got, c.want) {
			t.Errorf("level %d, %v: %v, not %v", c.level, c.marks, got, c.want)
		}
	}
	for _, level := range []int{-1 << 63, -1, 16, 1<<63 - 1} {
		if got := Inner(firsts(1, true, true, true, true, true), level); !slices.Equal(got, []int{4, 1}) {
			t.Errorf("level %d: %v", level, got)
		}
	}
}

// P6.4
func TestNothingChanged(t *testing.T) {
	pairs := []api.Pair{pair("a", 3), pair("b", 199)}
	firsts := [][]byte{[]byte("a"), []byte("b"), []byte("c")}
	one, two := Leaves(pairs), Inner(firsts, 1)
	same1, same2 := slices.Clone(one), slices.Clone(two)
	for i := range one[:cap(one)] {
		one[:cap(one)][i] = 99
	}
	for i := range two[:cap(two)] {
		two[:cap(two)][i] = 99
	}
	if !slices.Equal(Leaves(pairs), same1) || !slices.Equal(Inner(firsts, 1), same2) {
		t.Error("answers share memory")
	}
	if string(pairs[0].Key) != "a" || string(firsts[2]) != "c" || len(pairs[1].Value) != 199 {
		t.Error("an argument was changed")
	}
}
