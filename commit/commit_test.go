package commit

import (
	"bytes"
	"encoding/binary"
	"fmt"
	"maps"
	"reflect"
	"slices"
	"strings"
	"testing"

	"trireme/api"
	"trireme/oper"
	"trireme/sha"
	"trireme/table"
	"trireme/tree"
)

func call(client int, number uint64, kind int, path string) api.Call {
	return api.Call{Client: client, Number: number, Op: api.Op{Kind: kind, Path: path}}
}

func some() api.Record {
	return api.Record{Gen: 7, View: 1<<64 - 1, Parent: api.Hash{1}, Files: api.Hash{2}, Snaps: api.Hash{3}, Seats: api.Hash{31: 4},
		Call: api.Call{Client: 3, Number: 1 << 40, Op: api.Op{Kind: 3, Path: "/a", Off: 5, Data: []byte("xyz")}}}
}

// blockOf is a record's block by the chapter's words.
func blockOf(r api.Record, op []byte) []byte {
	b := []byte{'R'}
	b = binary.BigEndian.AppendUint64(b, r.Gen)
	b = binary.BigEndian.AppendUint64(b, r.View)
	for _, h := range []api.Hash{r.Parent, r.Files, r.Snaps, r.Seats} {
		b = append(b, h[:]...)
	}
	b = append(b, byte(r.Call.Client))
	b = binary.BigEndian.AppendUint64(b, r.Call.Number)
	b = append(b, byte(len(op)>>8), byte(len(op)))
	return append(b, op...)
}

// P14.1
func TestRecordThereAndBack(t *testing.T) {
	op, _ := oper.Write(some().Call.Op)
	first := api.Record{Files: api.Hash{2}, Snaps: api.Hash{3}, Seats: api.Hash{4}}
	for _, c := range []struct {
		r  api.Record
		op []byte
	}{{some(), op}, {first, nil}, {api.Record{}, nil}} {
		want := blockOf(c.r, c.op)
		if b, e := Write(c.r); !bytes.Equal(b, want) || e != api.OK {
			t.Errorf("%v: %q, %v", c.r, b, e)
		}
		if r, e := Read(want); fmt.Sprint(r) != fmt.Sprint(c.r) || e != api.OK {
			t.Errorf("%q: %v, %v", want, r, e)
		}
	}
}

// P14.1
func TestWrongRecords(t *testing.T) {
	change := func(f func(r *api.Record)) api.Record {
		r := some()
		f(&r)
		return r
	}
	first := func(f func(r *api.Record)) api.Record {
		r := api.Record{}
		f(&r)
		return r
	}
	for i, r := range []api.Record{
		change(func(r *api.Record) { r.Call.Client = -1 }), change(func(r *api.Record) { r.Call.Client = 4 }), change(func(r *api.Record) { r.Call.Number = 0 }),
		change(func(r *api.Record) { r.Call.Op.Kind = 0 }), change(func(r *api.Record) { r.Call.Op.N = -1 }), change(func(r *api.Record) { r.Call = api.Call{} }),
		change(func(r *api.Record) { r.Gen = 0 }), change(func(r *api.Record) { r.Call.Op.Data = make([]byte, 65) }), change(func(r *api.Record) { r.Call.Client = 259 }),
		first(func(r *api.Record) { r.View = 1 }), first(func(r *api.Record) { r.Parent[31] = 1 }), first(func(r *api.Record) { r.Call.Client = 1 }),
		first(func(r *api.Record) { r.Call.Number = 1 }), first(func(r *api.Record) { r.Call.Op.Kind = 1 }), first(func(r *api.Record) { r.Call.Op.Data = []byte{0} }), first(func(r *api.Record) { r.Gen = 1 }),
	} {
		if b, e := Write(r); len(b) != 0 || e != api.ErrArg {
			t.Errorf("%d: %q, %v", i, b, e)
		}
	}
	right, _ := Write(some())
	op, _ := oper.Write(some().Call.Op)
	zero := api.Record{}
	bad := [][]byte{nil, append(bytes.Clone(right), 0), append([]byte{'r'}, right[1:]...), []byte("T\x00\x00"), make([]byte, 156),
		blockOf(some(), nil), blockOf(some(), op[1:]), blockOf(some(), append(bytes.Clone(op), 0)), blockOf(zero, op), blockOf(zero, []byte{0}),
		blockOf(change(func(r *api.Record) { r.Call.Client = 4 }), op), blockOf(change(func(r *api.Record) { r.Call.Number = 0 }), op), blockOf(change(func(r *api.Record) { r.Gen = 0 }), op),
		blockOf(first(func(r *api.Record) { r.View = 1 }), nil), blockOf(first(func(r *api.Record) { r.Parent[0] = 1 }), nil), blockOf(first(func(r *api.Record) { r.Call.Number = 1 }), nil)}
	for cut := range right {
		bad = append(bad, right[:cut])
	}
	for i, b := range bad {
		if r, e := Read(b); !reflect.DeepEqual(r, api.Record{}) || e != api.ErrForm {
			t.Errorf("%d: %q: %v, %v", i, b, r, e)
		}
	}
}

// P14.2
func TestBegin(t *testing.T) {
	head, bag := Begin()
	r, w, e := Load(bag, head)
	if e != api.OK || r.Gen != 0 || fmt.Sprint(w) != fmt.Sprint(table.New()) || r.Parent != (api.Hash{}) || r.View != 0 {
		t.Errorf("%v, %v, %v", r, w, e)
	}
	root, blocks, _ := tree.Build(table.New().Files)
	none, more, _ := tree.Build(nil)
	maps.Copy(blocks, more)
	record, _ := Write(api.Record{Files: root, Snaps: none, Seats: none})
	blocks[sha.Sum(record)] = record
	if head != sha.Sum(record) || fmt.Sprint(bag) != fmt.Sprint(blocks) {
		t.Errorf("%x", bag)
	}
}

// chain makes generations one behind the other in one bag, and gives their heads, the first one's first.
func chain(t *testing.T, calls ...api.Call) (api.Bag, []api.Hash) {
	t.Helper()
	head, bag := Begin()
	heads := []api.Hash{head}
	for i, c := range calls {
		next, more, _, e := Next(bag, head, uint64(i), c)
		if e != api.OK {
			t.Fatalf("%v: %v", c, e)
		}
		maps.Copy(bag, more)
		head = next
		heads = append(heads, head)
	}
	return bag, heads
}

func calls() []api.Call {
	return []api.Call{call(0, 1, api.OpMkdir, "/a"), call(0, 2, api.OpCreate, "/a/b"), call(1, 1, api.OpSnap, "s"),
		{Client: 2, Number: 9, Op: api.Op{Kind: api.OpWrite, Path: "/a/b", Data: []byte("hello")}}, call(3, 1, api.OpSnap, "a"), call(3, 2, api.OpStat, "/a"), call(0, 3, api.OpCreate, "/a/b")}
}

// P14.3, P14.4
func TestNext(t *testing.T) {
	head, bag := Begin()
	w := table.New()
	for i, c := range calls() {
		had := maps.Clone(bag)
		next, more, a, e := Next(bag, head, uint64(10+i), c)
		if e != api.OK || fmt.Sprint(bag) != fmt.Sprint(had) {
			t.Fatalf("%v: %v, or the bag was changed", c, e)
		}
		var answer api.Answer
		w, answer, _ = table.Do(w, c, uint64(i+1))
		if fmt.Sprint(a) != fmt.Sprint(answer) {
			t.Errorf("%v: %v, not %v", c, a, answer)
		}
		for h, b := range more {
			if _, ok := bag[h]; ok || sha.Sum(b) != h {
				t.Errorf("%v: a block that isn't new, or not of its digest", c)
			}
		}
		maps.Copy(bag, more)
		r, got, e := Load(bag, next)
		if e != api.OK || fmt.Sprint(got) != fmt.Sprint(w) || r.Gen != uint64(i+1) || r.View != uint64(10+i) || r.Parent != head || fmt.Sprint(r.Call) != fmt.Sprint(c) {
			t.Errorf("%v: %v, %v, %v", c, r, got, e)
		}
		hashes, e := Hashes(bag, next, 1<<64-1)
		for h := range more {
			if e != api.OK || !slices.Contains(hashes, h) {
				t.Errorf("%v: a block of no use, or %v", c, e)
			}
		}
		head = next
	}
}

// P14.4: what is a key of the bag isn't among the blocks.
func TestNextLeavesOutKeys(t *testing.T) {
	bag, heads := chain(t, calls()[:2]...)
	next, more, _, _ := Next(bag, heads[2], 5, calls()[2])
	for h := range more {
		with := maps.Clone(bag)
		with[h] = []byte("not it")
		again, fewer, _, e := Next(with, heads[2], 5, calls()[2])
		want := maps.Clone(more)
		delete(want, h)
		if again != next || e != api.OK || fmt.Sprint(fewer) != fmt.Sprint(want) {
			t.Errorf("%x: %v", h, e)
		}
	}
}

// P14.4
func TestNextErrors(t *testing.T) {
	bag, heads := chain(t, call(1, 5, api.OpCreate, "/a"))
	for what, c := range map[string]api.Call{
		"no operation": {Client: 1, Number: 6}, "a wrong one": {Client: 1, Number: 6, Op: api.Op{Kind: 1, N: -1}}, "too long": {Client: 1, Number: 6, Op: api.Op{Kind: 1, Path: strings.Repeat("a", 33)}},
		"again": call(1, 5, api.OpCreate, "/a"), "stale": call(1, 4, api.OpCreate, "/a"), "number 0": call(0, 0, api.OpCreate, "/a"),
		"no client": call(4, 1, api.OpCreate, "/a"), "below": call(-1, 1, api.OpCreate, "/a"),
	} {
		h, more, a, e := Next(bag, heads[1], 0, c)
		if h != (api.Hash{}) || len(more) != 0 || !reflect.DeepEqual(a, api.Answer{}) || e != api.ErrArg {
			t.Errorf("%s: %v", what, e)
		}
		if _, _, _, e := Next(nil, heads[1], 0, c); e != api.ErrLost {
			t.Errorf("%s: Load's error ahead of it: %v", what, e)
		}
	}
	r, _, _ := Load(bag, heads[1])
	for gen, want := range map[uint64]api.Errno{1<<64 - 1: api.ErrArg, 1<<64 - 2: api.OK} {
		r.Gen = gen
		h := put(bag, mustWrite(r))
		if _, _, _, e := Next(bag, h, 0, call(2, 1, api.OpCreate, "/b")); e != want {
			t.Errorf("Gen %d: %v", gen, e)
		}
	}
}

func mustWrite(r api.Record) []byte {
	b, e := Write(r)
	if e != api.OK {
		panic(e)
	}
	return b
}

func put(bag api.Bag, block []byte) api.Hash {
	h := sha.Sum(block)
	bag[h] = block
	return h
}

func build(bag api.Bag, pairs ...api.Pair) api.Hash {
	h, more, e := tree.Build(pairs)
	if e != api.OK {
		panic(e)
	}
	maps.Copy(bag, more)
	return h
}

func pair(key, value string) api.Pair { return api.Pair{Key: []byte(key), Value: []byte(value)} }

func wantLoad(t *testing.T, what string, bag api.Bag, head api.Hash, want api.Errno) {
	t.Helper()
	if r, w, e := Load(bag, head); e != want || e != api.OK && (!reflect.DeepEqual(r, api.Record{}) || !reflect.DeepEqual(w, api.Whole{})) {
		t.Errorf("%s: %v, not %v", what, e, want)
	}
	if l, e := Hashes(bag, head, 99); e != want || e != api.OK && len(l) != 0 {
		t.Errorf("Hashes, %s: %v, not %v", what, e, want)
	}
}

// P14.3
func TestLoadErrors(t *testing.T) {
	bag, heads := chain(t, calls()...)
	head := heads[len(heads)-1]
	r, _, _ := Load(bag, head)
	wantLoad(t, "right", bag, head, api.OK)
	wantLoad(t, "nothing", nil, head, api.ErrLost)
	for h := range bag {
		less := maps.Clone(bag)
		less[h] = append(bytes.Clone(less[h]), 0)
		want := api.OK
		if list, _ := Hashes(bag, head, 99); slices.Contains(list, h) {
			want = api.ErrLost
		}
		wantLoad(t, "another text", less, head, want)
		delete(less, h)
		wantLoad(t, "without a block", less, head, want)
	}
	wantLoad(t, "no record", bag, r.Files, api.ErrForm)

	junk := put(bag, []byte("junk"))
	lost := api.Hash{9}
	files, seats, snaps := r.Files, r.Seats, r.Snaps
	value := func(h api.Hash) string { return "\x00\x00\x00\x00\x00\x00\x00\x05" + string(h[:]) }
	answer := "\x00\x00\x00\x00\x00\x00\x00"
	one := "\x00\x00\x00\x00\x00\x00\x00\x01"
	for what, c := range map[string]struct {
		files, snaps, seats api.Hash
		want                api.Errno
	}{
		"files ahead of snaps":                 {lost, junk, junk, api.ErrLost},
		"files ahead of snaps, form":           {junk, lost, lost, api.ErrForm},
		"snaps ahead of seats":                 {files, lost, junk, api.ErrLost},
		"snaps ahead of seats, form":           {files, junk, lost, api.ErrForm},
		"seats":                                {files, snaps, lost, api.ErrLost},
		"seats, form":                          {files, snaps, junk, api.ErrForm},
		"a snapshot's value, then lost seats":  {files, build(bag, pair("s", "short")), lost, api.ErrForm},
		"a snapshot's long value":              {files, build(bag, pair("s", value(files)+"x")), lost, api.ErrForm},
		"a snapshot's files lost":              {files, build(bag, pair("s", value(lost))), junk, api.ErrLost},
		"a snapshot's files junk":              {files, build(bag, pair("s", value(junk))), lost, api.ErrForm},
		"lost ahead of the next one's value":   {files, build(bag, pair("a", value(lost)), pair("b", "short")), junk, api.ErrLost},
		"a value ahead of the next one's lost": {files, build(bag, pair("a", "short"), pair("b", value(lost))), lost, api.ErrForm},
		"no name, behind all":                  {files, build(bag, pair("a/b", value(files))), lost, api.ErrLost},
		"no name":                              {files, build(bag, pair("a/b", value(files))), seats, api.ErrForm},
		"files that aren't files":              {build(bag, pair("x", "y")), snaps, lost, api.ErrLost},
		"files that aren't files, alone":       {build(bag, pair("x", "y")), snaps, seats, api.ErrForm},
		"a snapshot's that aren't":             {files, build(bag, pair("s", value(build(bag, pair("x", "y"))))), seats, api.ErrForm},
		"a long client":                        {files, snaps, build(bag, pair("\x00\x00", one+answer)), api.ErrForm},
		"no client":                            {files, snaps, build(bag, pair("", one+answer)), api.ErrForm},
		"client 4":                             {files, snaps, build(bag, pair("\x04", one+answer)), api.ErrForm},
		"client 3":                             {files, snaps, build(bag, pair("\x03", one+answer)), api.OK},
		"number 0":                             {files, snaps, build(bag, pair("\x03", value(files)[:7]+"\x00"+answer)), api.ErrForm},
		"no answer":                            {files, snaps, build(bag, pair("\x03", one)), api.ErrForm},
		"no number":                            {files, snaps, build(bag, pair("\x03", one[:7])), api.ErrForm},
		"a long answer":                        {files, snaps, build(bag, pair("\x03", one+answer+"x")), api.ErrForm},
		"a short answer":                       {files, snaps, build(bag, pair("\x03", one+answer[:6])), api.ErrForm},
	} {
		r := r
		r.Files, r.Snaps, r.Seats = c.files, c.snaps, c.seats
		wantLoad(t, what, bag, put(bag, mustWrite(r)), c.want)
	}
}

// P14.5
func TestAncestor(t *testing.T) {
	bag, heads := chain(t, calls()...)
	for i, head := range heads {
		for gen := range uint64(len(heads)) {
			h, e := Ancestor(bag, head, gen)
			if gen > uint64(i) {
				if h != (api.Hash{}) || e != api.ErrArg {
					t.Errorf("%d from %d: %v", gen, i, e)
				}
			} else if h != heads[gen] || e != api.OK {
				t.Errorf("%d from %d: %v", gen, i, e)
			}
		}
	}
	last := heads[5]
	want := func(what string, bag api.Bag, head api.Hash, gen uint64, want api.Errno) {
		t.Helper()
		if h, e := Ancestor(bag, head, gen); h != (api.Hash{}) || e != want {
			t.Errorf("%s: %v, not %v", what, e, want)
		}
		if l, e := Hashes(bag, head, gen); gen <= 5 && (len(l) != 0 || e != want) {
			t.Errorf("Hashes, %s: %v, not %v", what, e, want)
		}
	}
	want("too great", bag, last, 1<<64-1, api.ErrArg)
	want("no head", bag, api.Hash{}, 9, api.ErrLost)
	less := maps.Clone(bag)
	delete(less, heads[3])
	want("a lost one", less, last, 3, api.ErrLost)
	want("below a lost one", less, last, 1, api.ErrLost)
	if h, e := Ancestor(less, last, 4); h != heads[4] || e != api.OK {
		t.Errorf("above a lost one: %v", e)
	}
	less[heads[3]] = []byte("x")
	want("another text", less, last, 1, api.ErrLost)
	r, _, _ := Load(bag, last)
	want("no record", bag, r.Files, 0, api.ErrForm)
	r.Parent = heads[3]
	want("a Gen left out", bag, put(bag, mustWrite(r)), 4, api.ErrForm)
	want("a Gen left out, below", bag, put(bag, mustWrite(r)), 0, api.ErrForm)
	r.Parent = last
	want("the same Gen", bag, put(bag, mustWrite(r)), 4, api.ErrForm)
	r.Parent = r.Files
	want("a Parent that is no record", bag, put(bag, mustWrite(r)), 4, api.ErrForm)
}

// P14.6
func TestHashes(t *testing.T) {
	bag, heads := chain(t, calls()...)
	for i, head := range heads {
		r, w, _ := Load(bag, head)
		all := map[api.Hash]int{head: 1}
		add := func(root api.Hash) {
			list, e := tree.Hashes(bag, root)
			if e != api.OK {
				t.Fatal(e)
			}
			for _, h := range list {
				all[h] = 1
			}
		}
		add(r.Files)
		add(r.Snaps)
		add(r.Seats)
		for _, s := range w.Snaps {
			root, _, _ := tree.Build(s.Files)
			add(root)
		}
		for _, keep := range []uint64{1<<64 - 1, uint64(i + 1), uint64(i), uint64(max(i-1, 0)), 0} {
			want := maps.Clone(all)
			for k := int(min(keep, 99)); k <= i; k++ {
				want[heads[k]] = 1
			}
			list := slices.SortedFunc(maps.Keys(want), func(a, b api.Hash) int { return bytes.Compare(a[:], b[:]) })
			if got, e := Hashes(bag, head, keep); e != api.OK || !slices.Equal(got, list) {
				t.Errorf("Hashes of %d, keep %d: %d of %d, %v", i, keep, len(got), len(list), e)
			}
		}
	}
	less := maps.Clone(bag)
	delete(less, heads[2])
	if _, e := Hashes(less, heads[4], 5); e != api.OK {
		t.Errorf("no ancestor is asked for: %v", e)
	}
	delete(less, heads[4])
	if _, e := Hashes(less, heads[4], 0); e != api.ErrLost {
		t.Error(e)
	}
}

// P14.7
func TestNothingShared(t *testing.T) {
	bag, heads := chain(t, calls()...)
	head := heads[len(heads)-1]
	show := fmt.Sprint(bag)
	c := api.Call{Client: 1, Number: 2, Op: api.Op{Kind: api.OpWrite, Path: "/a/b", Data: []byte("xyz")}}
	_, more, _, _ := Next(bag, head, 0, c)
	fresh := fmt.Sprint(more)
	c.Op.Data[0] = '!'
	r, w, _ := Load(bag, head)
	r.Call.Op.Path = "!"
	for _, p := range w.Files {
		p.Key[0], p.Value[0] = '!', '!'
	}
	for _, s := range w.Seats {
		for i := range s.Answer.Data {
			s.Answer.Data[i] = '!'
		}
	}
	list, _ := Hashes(bag, head, 0)
	clear(list)
	if fmt.Sprint(bag) != show || fmt.Sprint(more) != fresh {
		t.Error("an answer shares memory with an argument")
	}
	_, one := Begin()
	_, two := Begin()
	for _, b := range one {
		clear(b)
	}
	for h, b := range two {
		if sha.Sum(b) != h {
			t.Error("two answers share memory")
		}
	}
}
