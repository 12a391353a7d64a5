package tree

import (
	"bytes"
	"fmt"
	"maps"
	"math/rand"
	"slices"
	"testing"

	"trireme/api"
	"trireme/node"
	"trireme/sha"
	"trireme/shape"
)

func pair(key, value string) api.Pair { return api.Pair{Key: []byte(key), Value: []byte(value)} }

func show(pairs []api.Pair) string { return fmt.Sprintf("%q", pairs) }

// some gives so many pairs that rise, of several sizes.
func some(n int) (pairs []api.Pair) {
	for i := range n {
		pairs = append(pairs, pair(fmt.Sprintf("k%05d", i), string(make([]byte, i*31%97))))
	}
	return pairs
}

func build(t *testing.T, pairs []api.Pair) (api.Hash, api.Bag) {
	t.Helper()
	h, bag, e := Build(pairs)
	if e != api.OK {
		t.Fatal(e)
	}
	return h, bag
}

// put lays a node into a bag by hand.
func put(t *testing.T, bag api.Bag, n api.Node) api.Hash {
	t.Helper()
	b, e := node.Write(n)
	if e != api.OK {
		t.Fatal(e)
	}
	h := sha.Sum(b)
	bag[h] = b
	return h
}

// treeOf is the tree of pairs by the chapter's words: row by row.
func treeOf(t *testing.T, pairs []api.Pair) (api.Hash, api.Bag) {
	bag := api.Bag{}
	var row []api.Kid
	at := 0
	for _, n := range shape.Leaves(pairs) {
		kid := api.Kid{Hash: put(t, bag, api.Node{Pairs: pairs[at : at+n]})}
		if n > 0 {
			kid.First = pairs[at].Key
		}
		row, at = append(row, kid), at+n
	}
	for level := 1; len(row) > 1; level++ {
		var firsts [][]byte
		for _, k := range row {
			firsts = append(firsts, k.First)
		}
		var next []api.Kid
		at := 0
		for _, n := range shape.Inner(firsts, level) {
			next = append(next, api.Kid{First: row[at].First, Hash: put(t, bag, api.Node{Level: level, Kids: row[at : at+n]})})
			at += n
		}
		row = next
	}
	return row[0].Hash, bag
}

func sameBag(a, b api.Bag) bool {
	return maps.EqualFunc(a, b, func(x, y []byte) bool { return bytes.Equal(x, y) })
}

// P8.1, P8.2
func TestBuild(t *testing.T) {
	for _, n := range []int{0, 1, 2, 3, 5, 9, 40, 200, 3000} {
		pairs := some(n)
		want, blocks := treeOf(t, pairs)
		h, bag := build(t, pairs)
		if h != want || !sameBag(bag, blocks) {
			t.Errorf("the tree of %d pairs", n)
		}
		if all, e := All(bag, h); e != api.OK || show(all) != show(pairs) {
			t.Errorf("All of %d pairs: %v", n, e)
		}
	}
	h, bag := build(t, nil)
	if len(bag) != 1 || string(bag[h]) != "T\x00\x00" || h != sha.Sum([]byte("T\x00\x00")) {
		t.Errorf("the tree of nothing: %q", bag)
	}
}

// P8.1
func TestBuildErrors(t *testing.T) {
	long := string(make([]byte, 210))
	for _, c := range []struct {
		what  string
		pairs []api.Pair
		want  api.Errno
	}{
		{"equal keys", []api.Pair{pair("a", "1"), pair("a", "2")}, api.ErrArg},
		{"falling keys", []api.Pair{pair("a", ""), pair("c", ""), pair("b", "")}, api.ErrArg},
		{"falling keys, and too long", []api.Pair{pair("b", string(make([]byte, 900))), pair("a", "")}, api.ErrArg},
		{"a leaf of 470 bytes", []api.Pair{pair("b", string(make([]byte, 462)))}, api.OK},
		{"a leaf of 471 bytes", []api.Pair{pair("b", string(make([]byte, 463)))}, api.ErrLong},
		{"a text of 65536 bytes", []api.Pair{pair("b", string(make([]byte, 65536)))}, api.ErrLong},
		{"long firsts", []api.Pair{pair("a"+long, ""), pair("b"+long, ""), pair("c"+long, ""), pair("d"+long, ""), pair("e"+long, "")}, api.ErrLong},
	} {
		h, bag, e := Build(c.pairs)
		if e != c.want || e != api.OK && (h != api.Hash{} || len(bag) != 0) {
			t.Errorf("%s: %v", c.what, e)
		}
	}
}

const (
	fnvFactor  = 16777619
	fnvInverse = 899433627 // of the factor, by 2^32
)

// markedKeys gives so many rising keys that are marked at all levels from 1 on: their hashes are 0 to 3. The last two bytes are found backwards from those.
func markedKeys(n int) (keys [][]byte) {
	ends := map[uint32][2]byte{}
	near := make([]bool, 1<<22) // by a state's low bits: is it worth asking the map?
	for target := range uint32(4) {
		for last := range 256 {
			for before := range 256 {
				h := (target*fnvInverse ^ uint32(last)) * fnvInverse
				h ^= uint32(before)
				ends[h] = [2]byte{byte(before), byte(last)}
				near[h&(1<<22-1)] = true
			}
		}
	}
	for i := 0; len(keys) < n; i++ {
		head := uint32(2166136261)
		for _, b := range []byte{byte(i >> 8), byte(i)} {
			head = (head ^ uint32(b)) * fnvFactor
		}
		for m := 0; m < 1<<24 && len(keys) < n; m++ {
			h := (head ^ uint32(m>>16)) * fnvFactor
			h = (h ^ uint32(m>>8&255)) * fnvFactor
			h = (h ^ uint32(m&255)) * fnvFactor
			if !near[h&(1<<22-1)] {
				continue
			}
			if end, ok := ends[h]; ok {
				keys = append(keys, []byte{byte(i >> 8), byte(i), byte(m >> 16), byte(m >> 8), byte(m), end[0], end[1]})
			}
		}
	}
	return keys
}

// P8.1: 32768 leaves in groups of two are a tree of Level 15; with one more there is a Level too much.
func TestLevels(t *testing.T) {
	var pairs []api.Pair
	for _, k := range markedKeys(1<<15 + 1) {
		if !shape.Mark(k, 1) || !shape.Mark(k, 15) {
			t.Fatalf("%x isn't marked", k)
		}
		pairs = append(pairs, api.Pair{Key: k, Value: make([]byte, 100)})
	}
	h, bag := build(t, pairs[:1<<15])
	if n, e := node.Read(bag[h]); e != api.OK || n.Level != 15 {
		t.Errorf("Level %d, %v", n.Level, e)
	}
	if all, e := All(bag, h); e != api.OK || len(all) != 1<<15 {
		t.Errorf("%d pairs, %v", len(all), e)
	}
	if h, more, e := Build(pairs); e != api.ErrLong || h != (api.Hash{}) || len(more) != 0 {
		t.Errorf("beyond Level 15: %v", e)
	}
	if h, more, e := Put(bag, h, pairs[1<<15]); e != api.ErrLong || h != (api.Hash{}) || len(more) != 0 {
		t.Errorf("Put beyond Level 15: %v", e)
	}
}

func wantAll(t *testing.T, what string, bag api.Bag, root api.Hash, want api.Errno) {
	t.Helper()
	if p, e := All(bag, root); e != want || len(p) != 0 {
		t.Errorf("All, %s: %v, %v, not %v", what, p, e, want)
	}
	if v, ok, e := Get(bag, root, []byte("a")); e != want || ok || len(v) != 0 {
		t.Errorf("Get, %s: %v", what, e)
	}
	if p, e := Range(bag, root, nil, 9); e != want || len(p) != 0 {
		t.Errorf("Range, %s: %v", what, e)
	}
	if p, e := Range(bag, root, nil, 0); e != want || len(p) != 0 {
		t.Errorf("Range of none, %s: %v", what, e)
	}
	if h, b, e := Put(bag, root, pair("a", "")); e != want || h != (api.Hash{}) || len(b) != 0 {
		t.Errorf("Put, %s: %v", what, e)
	}
	if h, b, e := Delete(bag, root, []byte("a")); e != want || h != (api.Hash{}) || len(b) != 0 {
		t.Errorf("Delete, %s: %v", what, e)
	}
	if l, e := Hashes(bag, root); e != want || len(l) != 0 {
		t.Errorf("Hashes, %s: %v", what, e)
	}
}

// P8.2, P8.3, P8.4, P8.5
func TestLost(t *testing.T) {
	root, bag := build(t, some(60))
	wantAll(t, "nothing", nil, root, api.ErrLost)
	for h := range bag {
		less := maps.Clone(bag)
		delete(less, h)
		wantAll(t, "without a block", less, root, api.ErrLost)
		less[h] = append(bytes.Clone(bag[h]), 0)
		wantAll(t, "another text", less, root, api.ErrLost)
		less[h] = nil
		wantAll(t, "no text", less, root, api.ErrLost)
	}
}

// P8.2: what is met first, is answered.
func TestOrderOfErrors(t *testing.T) {
	bag := api.Bag{}
	junk := sha.Sum([]byte("junk"))
	bag[junk] = []byte("junk")
	lost := api.Hash{1}
	a := put(t, bag, api.Node{Pairs: []api.Pair{pair("a", "")}})
	b := put(t, bag, api.Node{Pairs: []api.Pair{pair("b", "")}})
	c := put(t, bag, api.Node{Pairs: []api.Pair{pair("c", "")}})
	none := put(t, bag, api.Node{})
	over := func(level int, kids ...api.Hash) api.Hash {
		n := api.Node{Level: level}
		for i, h := range kids {
			n.Kids = append(n.Kids, api.Kid{First: []byte{byte('a' + i)}, Hash: h})
		}
		return put(t, bag, n)
	}
	for _, x := range []struct {
		what string
		root api.Hash
		want api.Errno
	}{
		{"no node", junk, api.ErrForm},
		{"left lost, right junk", over(1, lost, junk), api.ErrLost},
		{"left junk, right lost", over(1, junk, lost), api.ErrForm},
		{"left right, right lost", over(1, a, lost), api.ErrLost},
		{"level of a kid too low", over(2, a, lost), api.ErrForm},
		{"level of a kid too high", over(1, over(1, a, b), lost), api.ErrForm},
		{"level ahead of what is below", over(3, over(1, lost)), api.ErrForm},
		{"an empty leaf below, then lost", over(1, none, lost), api.ErrForm},
		{"lost, then an empty leaf", over(1, lost, none), api.ErrLost},
		{"keys fall, then lost", over(1, b, a, lost), api.ErrForm},
		{"keys the same, then lost", over(1, a, a, lost), api.ErrForm},
		{"lost, then keys fall", over(1, b, lost, a), api.ErrLost},
		{"deep lost ahead of junk", over(2, over(1, a, lost), junk), api.ErrLost},
		{"lost at the end, another shape", over(2, over(1, a), over(1, b), lost), api.ErrLost},
		{"another shape", over(1, b, c), api.ErrForm}, // b isn't marked
		{"a single kid", over(1, a), api.ErrForm},
	} {
		wantAll(t, x.what, bag, x.root, x.want)
	}
}

// P8.2: nodes that aren't the tree of their pairs.
func TestNotTheTree(t *testing.T) {
	pairs := some(60)
	root, bag := build(t, pairs)
	n, _ := node.Read(bag[root])
	n.Kids[0].First = []byte("a")
	wantAll(t, "another First", bag, put(t, bag, n), api.ErrForm)
	one := api.Bag{}
	leaf := put(t, one, api.Node{Pairs: []api.Pair{pair("a", string(make([]byte, 150))), pair("b", string(make([]byte, 150)))}})
	wantAll(t, "a leaf too great", one, leaf, api.ErrForm)
}

// P1, P8.2: a small bag whose nodes have the same kid four times, on 15 levels.
func TestManyTimesTheSame(t *testing.T) {
	bag := api.Bag{}
	h := put(t, bag, api.Node{Pairs: []api.Pair{pair("a", "")}})
	for level := 1; level <= 15; level++ {
		n := api.Node{Level: level}
		for i := range 4 {
			n.Kids = append(n.Kids, api.Kid{First: []byte{byte(i)}, Hash: h})
		}
		h = put(t, bag, n)
	}
	wantAll(t, "a thousand million leaves", bag, h, api.ErrForm)
}

// P8.3, P8.4, P8.5, P8.6
func TestAgainstAModel(t *testing.T) {
	rnd := rand.New(rand.NewSource(3))
	for range 12 {
		model := map[string]string{}
		root, bag := build(t, nil)
		for step := range 150 {
			key := fmt.Sprint("k", rnd.Intn(60))
			var more api.Bag
			var e api.Errno
			had := maps.Clone(bag)
			if rnd.Intn(3) > 0 {
				value := string(bytes.Repeat([]byte{byte(rnd.Intn(3))}, rnd.Intn(90)))
				model[key] = value
				root, more, e = Put(bag, root, pair(key, value))
			} else {
				_, there := model[key]
				delete(model, key)
				before := root
				root, more, e = Delete(bag, root, []byte(key))
				if !there && (root != before || len(more) != 0) {
					t.Fatal("Delete of a key that isn't there")
				}
			}
			if e != api.OK || !sameBag(bag, had) {
				t.Fatal(e, "or the bag was changed")
			}
			for h := range more {
				if _, ok := bag[h]; ok {
					t.Fatal("a block that isn't new")
				}
			}
			maps.Copy(bag, more)
			pairs := checkModel(t, model, bag, root, more)
			if step%25 == 0 {
				checkReads(t, model, bag, root, pairs)
			}
		}
	}
}

func checkModel(t *testing.T, model map[string]string, bag api.Bag, root api.Hash, more api.Bag) (pairs []api.Pair) {
	t.Helper()
	for _, k := range slices.Sorted(maps.Keys(model)) {
		pairs = append(pairs, pair(k, model[k]))
	}
	want, blocks := treeOf(t, pairs)
	if root != want {
		t.Fatal("another tree")
	}
	for h := range more {
		if _, ok := blocks[h]; !ok {
			t.Fatal("a block of no use")
		}
	}
	if all, e := All(bag, root); e != api.OK || show(all) != show(pairs) {
		t.Fatal("All", e)
	}
	hashes, e := Hashes(bag, root)
	if e != api.OK || !slices.Equal(hashes, slices.SortedFunc(maps.Keys(blocks), func(a, b api.Hash) int { return bytes.Compare(a[:], b[:]) })) {
		t.Fatal("Hashes", e)
	}
	return pairs
}

func checkReads(t *testing.T, model map[string]string, bag api.Bag, root api.Hash, pairs []api.Pair) {
	t.Helper()
	for i := range 70 {
		key := fmt.Sprint("k", i)
		value, ok, e := Get(bag, root, []byte(key))
		v, there := model[key]
		if e != api.OK || ok != there || string(value) != v {
			t.Fatalf("Get of %q: %q, %t, %v", key, value, ok, e)
		}
	}
	for _, from := range []string{"", "k", "k3", "k33", "k330", "l"} {
		at := slices.IndexFunc(pairs, func(p api.Pair) bool { return string(p.Key) >= from })
		if at < 0 {
			at = len(pairs)
		}
		for _, most := range []int{-1 << 63, -1, 0, 1, 5, len(pairs), 1<<63 - 1} {
			want := pairs[at:][:max(0, min(most, len(pairs)-at))]
			if got, e := Range(bag, root, []byte(from), most); e != api.OK || show(got) != show(want) {
				t.Fatalf("Range from %q, %d: %v, %v", from, most, got, e)
			}
		}
	}
}

// P8.4
func TestPutTooLong(t *testing.T) {
	root, bag := build(t, some(5))
	if h, more, e := Put(bag, root, pair("z", string(make([]byte, 500)))); e != api.ErrLong || h != (api.Hash{}) || len(more) != 0 {
		t.Error(e)
	}
}

// P8.4: what counts is the bag's keys.
func TestPutLeavesOutWhatIsThere(t *testing.T) {
	pairs := some(30)
	root, bag := build(t, pairs)
	next, more, _ := Put(bag, root, pair("k00007", "other"))
	half := maps.Clone(bag)
	for h := range more {
		half[h] = []byte("not it")
		break
	}
	again, fewer, e := Put(half, root, pair("k00007", "other"))
	if e != api.OK || again != next || len(fewer) != len(more)-1 || len(more) >= len(bag) {
		t.Errorf("%d new blocks, then %d, of %d", len(more), len(fewer), len(bag))
	}
}

// P8.6
func TestOneDigest(t *testing.T) {
	rnd := rand.New(rand.NewSource(9))
	seen := map[api.Hash]string{}
	for range 3000 {
		model := map[string]string{}
		for range rnd.Intn(5) {
			model[fmt.Sprint(rnd.Intn(8))] = fmt.Sprint(rnd.Intn(4))
		}
		var pairs []api.Pair
		for _, k := range slices.Sorted(maps.Keys(model)) {
			pairs = append(pairs, pair(k, model[k]))
		}
		h, _ := build(t, pairs)
		if was, ok := seen[h]; ok && was != show(pairs) {
			t.Fatalf("%s and %s have one digest", was, show(pairs))
		}
		seen[h] = show(pairs)
	}
	if len(seen) < 100 {
		t.Errorf("only %d trees", len(seen))
	}
}

func spoil(b []byte) {
	b = b[:cap(b)]
	for i := range b {
		b[i] = '!'
	}
}

// P8.6
func TestNothingShared(t *testing.T) {
	pairs := some(20)
	root, bag := build(t, pairs)
	for _, p := range pairs {
		spoil(p.Key)
		spoil(p.Value)
	}
	all, e := All(bag, root)
	if e != api.OK || show(all) != show(some(20)) {
		t.Fatal("an argument was kept")
	}
	part, _ := Range(bag, root, []byte("k00003"), 4)
	one, _, _ := Get(bag, root, []byte("k00001"))
	p := pair("k00002", "value")
	next, more, _ := Put(bag, root, p)
	spoil(p.Value)
	for _, p := range append(all, part...) {
		spoil(p.Key)
		spoil(p.Value)
	}
	spoil(one)
	if all, e := All(bag, root); e != api.OK || show(all) != show(some(20)) {
		t.Error("an answer shares memory with the bag")
	}
	maps.Copy(more, bag)
	if v, ok, e := Get(more, next, []byte("k00002")); string(v) != "value" || !ok || e != api.OK {
		t.Error("a pair was kept")
	}
	for _, b := range bag {
		spoil(b)
	}
	again, blocks := build(t, some(20))
	if all, e := All(blocks, again); again != root || e != api.OK || show(all) != show(some(20)) {
		t.Error("two answers share memory")
	}
}
