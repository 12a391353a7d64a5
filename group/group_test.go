package group

import (
	"bytes"
	"fmt"
	"maps"
	"math/rand"
	"slices"
	"testing"

	"trireme/api"
	"trireme/commit"
	"trireme/disk"
	"trireme/sector"
	"trireme/store"
)

func layDisk(t *testing.T, sectors int) *disk.Disk {
	t.Helper()
	d, e := disk.New(sectors)
	if e != api.OK {
		t.Fatal(e)
	}
	return d
}

func lay(t *testing.T, d *disk.Disk) *Group {
	t.Helper()
	g, e := New(d)
	if g == nil || e != api.OK {
		t.Fatal(e)
	}
	return g
}

func open(t *testing.T, d *disk.Disk) *Group {
	t.Helper()
	g, e := Open(d)
	if g == nil || e != api.OK {
		t.Fatal(e)
	}
	return g
}

func call(number uint64, kind int, path string) api.Call {
	return api.Call{Client: 1, Number: number, Op: api.Op{Kind: kind, Path: path, Data: []byte(path)}}
}

// next gives the Super and the blocks of the generation behind a group's head.
func next(t *testing.T, g *Group, c api.Call) (api.Super, api.Bag) {
	t.Helper()
	s := g.Super()
	head, more, _, e := commit.Next(g.Bag(), s.Head, s.View, c)
	if e != api.OK {
		t.Fatal(e)
	}
	s.Head, s.Gen = head, s.Gen+1
	return s, more
}

func step(t *testing.T, g *Group, c api.Call) {
	t.Helper()
	s, more := next(t, g, c)
	if e := g.Save(s, more); e != api.OK {
		t.Fatal(e)
	}
}

// keeps: the group has this Super, and just what is kept for it.
func keeps(t *testing.T, what string, g *Group, s api.Super) {
	t.Helper()
	if g.Super() != s {
		t.Errorf("%s: Super %v, not %v", what, g.Super(), s)
	}
	bag := g.Bag()
	list, e := commit.Hashes(bag, s.Head, s.Commit)
	if e != api.OK || len(list) != len(bag) {
		t.Errorf("%s: %d blocks kept of %d, %v", what, len(bag), len(list), e)
	}
}

// P15.2
func TestNew(t *testing.T) {
	for _, n := range []int{1, 2, 5} {
		d := layDisk(t, n)
		d.Limit(0)
		if g, e := New(d); g != nil || e != api.ErrArg {
			t.Errorf("%d sectors: %v", n, e)
		}
		if e := d.Flush(); e != api.ErrDown {
			t.Error(e)
		}
		if g, e := New(d); g != nil || e != api.ErrArg {
			t.Errorf("%d sectors, down: %v", n, e)
		}
	}
	head, blocks := commit.Begin()
	first := api.Super{Seq: 1, Head: head}
	d := layDisk(t, 6)
	keeps(t, "New", lay(t, d), first)
	keeps(t, "opened", open(t, d.Crash(nil)), first)
	if s, _ := d.Read(1); !bytes.Equal(s, sector.Super(first)) {
		t.Error("slot 1")
	}
	if s, _ := d.Read(0); !bytes.Equal(s, make([]byte, 512)) {
		t.Error("slot 0")
	}
	for i, h := range sorted(blocks) {
		s, _ := d.Read(2 + i)
		if b, e := sector.Unwrap(s); e != api.OK || !bytes.Equal(b, blocks[h]) {
			t.Errorf("sector %d", 2+i)
		}
	}
	d.Flush()
	d.Limit(0)
	d.Flush()
	if g, e := New(d); g != nil || e != api.ErrDown {
		t.Errorf("down: %v", e)
	}
}

func sorted(bag api.Bag) []api.Hash {
	return slices.SortedFunc(maps.Keys(bag), func(a, b api.Hash) int { return bytes.Compare(a[:], b[:]) })
}

// P15.2: 3 calls for the slots, 3 blocks and a flush, the Super and a flush.
func TestNewCalls(t *testing.T) {
	for n := range 10 {
		d := layDisk(t, 16)
		d.Limit(n)
		g, e := New(d)
		if want := n >= 9; (g != nil) != want || want != (e == api.OK) || !want && e != api.ErrDown {
			t.Errorf("%d calls: %v", n, e)
		}
		if _, e := Open(d.Crash(nil)); n < 9 && e != api.ErrSuper {
			t.Errorf("%d calls, opened: %v", n, e)
		}
	}
}

// P15.2: on a disk that had a group the blocks are known already; what counted before counts till both slots are noughts.
func TestNewOverAnElderOne(t *testing.T) {
	elder := layDisk(t, 16)
	g := lay(t, elder)
	s := g.Super()
	s.View = 5
	if e := g.Save(s, nil); e != api.OK {
		t.Fatal(e)
	}
	for n := range 7 {
		d := elder.Crash(nil)
		d.Limit(n)
		got, e := New(d)
		if (got != nil) != (n == 6) || (e == api.OK) != (n == 6) {
			t.Errorf("%d calls: %v", n, e)
		}
		back, f := Open(d.Crash(nil))
		switch {
		case n < 3 && f == api.OK:
			keeps(t, "the elder one", back, g.Super())
		case n == 6 && f == api.OK:
			keeps(t, "the new one", back, got.Super())
		case n < 3 || n == 6 || f != api.ErrSuper:
			t.Errorf("%d calls, opened: %v", n, f)
		}
	}
}

// P15.3
func TestOpenErrors(t *testing.T) {
	for _, n := range []int{1, 2, 3, 400} {
		if g, e := Open(layDisk(t, n)); g != nil || e != api.ErrSuper {
			t.Errorf("an empty disk of %d: %v", n, e)
		}
	}
	d := layDisk(t, 16)
	g := lay(t, d)
	right := g.Super()
	put := func(slot int, s api.Super) func(*disk.Disk) {
		return func(d *disk.Disk) { d.Write(slot, sector.Super(s)) }
	}
	change := func(f func(s *api.Super)) api.Super {
		s := right
		s.Seq = 2
		f(&s)
		return s
	}
	for what, c := range map[string]struct {
		write func(d *disk.Disk)
		want  api.Errno
	}{
		"slot 1 even":         {put(1, change(func(s *api.Super) {})), api.ErrSuper},
		"slot 1 noughts":      {func(d *disk.Disk) { d.Write(1, make([]byte, 512)) }, api.ErrSuper},
		"slot 0 odd":          {put(0, change(func(s *api.Super) { s.Seq = 3; s.Gen = 9 })), api.OK},
		"another Gen":         {put(0, change(func(s *api.Super) { s.Gen = 1 })), api.ErrForm},
		"Commit above Gen":    {put(0, change(func(s *api.Super) { s.Commit = 1 })), api.ErrForm},
		"Normal above View":   {put(0, change(func(s *api.Super) { s.Normal = 1 })), api.ErrForm},
		"Normal is View":      {put(0, change(func(s *api.Super) { s.Normal, s.View = 7, 7 })), api.OK},
		"no such Head":        {put(0, change(func(s *api.Super) { s.Head = api.Hash{1} })), api.ErrLost},
		"Head is no record":   {put(0, change(func(s *api.Super) { s.Head = filesOf(t, g) })), api.ErrForm},
		"a lesser Seq is bad": {put(0, change(func(s *api.Super) { s.Seq = 0; s.Gen = 9 })), api.OK},
		"Lost ahead of form":  {put(0, change(func(s *api.Super) { s.Head = api.Hash{1}; s.Normal = 9 })), api.ErrLost},
	} {
		x := d.Crash(nil)
		c.write(x)
		x.Flush()
		if g, e := Open(x); e != c.want || (g == nil) != (e != api.OK) {
			t.Errorf("%s: %v, not %v", what, e, c.want)
		}
	}
	d.Limit(0)
	d.Flush()
	if g, e := Open(d); g != nil || e != api.ErrDown {
		t.Errorf("down: %v", e)
	}
}

func filesOf(t *testing.T, g *Group) api.Hash {
	r, e := commit.Read(g.Bag()[g.Super().Head])
	if e != api.OK {
		t.Fatal(e)
	}
	return r.Files
}

// P15.3: the later one of two slots, and noughts over what doesn't count.
func TestOpenSlots(t *testing.T) {
	d := layDisk(t, 30)
	g := lay(t, d)
	for i := range uint64(5) {
		step(t, g, call(i+1, api.OpCreate, fmt.Sprint("/", i)))
		x := d.Crash(nil)
		x.Limit(0)
		if i > 0 { // both slots count: nothing is written
			keeps(t, "both slots", open(t, x), g.Super())
		}
	}
	x := d.Crash(nil)
	x.Write(1, []byte("S"+string(make([]byte, 511))))
	x.Flush()
	for n, want := range []api.Errno{api.ErrDown, api.ErrDown, api.OK} {
		y := x.Crash(nil)
		y.Limit(n)
		got, e := Open(y)
		if e != want || (got == nil) != (e != api.OK) {
			t.Errorf("%d calls: %v, not %v", n, e, want)
		}
		if s, _ := y.Crash(nil).Read(1); e == api.OK && !bytes.Equal(s, make([]byte, 512)) {
			t.Error("noughts weren't written, or don't last")
		}
	}
	keeps(t, "one slot", open(t, x), g.Super())
}

// P15.3, P15.4: one sector is no disk for a group, but slot 0 is asked.
func TestOpenOneSector(t *testing.T) {
	d := layDisk(t, 1)
	d.Write(0, sector.Super(api.Super{Seq: 2, Head: api.Hash{1}}))
	if g, e := Open(d); g != nil || e != api.ErrLost {
		t.Error(e)
	}
}

// P15.1, P15.5
func TestSaveErrors(t *testing.T) {
	d := layDisk(t, 30)
	g := lay(t, d)
	step(t, g, call(1, api.OpCreate, "/a"))
	before := g.Super()
	right, more := next(t, g, call(2, api.OpCreate, "/b"))
	less := maps.Clone(more)
	for h := range less {
		if h != right.Head {
			delete(less, h)
			break
		}
	}
	bad := maps.Clone(more)
	bad[right.Head] = []byte("x")
	change := func(f func(s *api.Super)) api.Super {
		s := right
		f(&s)
		return s
	}
	for what, c := range map[string]struct {
		s    api.Super
		more api.Bag
		want api.Errno
	}{
		"no blocks":         {right, nil, api.ErrLost},
		"a block too few":   {right, less, api.ErrLost},
		"another text":      {right, bad, api.ErrLost},
		"no record":         {change(func(s *api.Super) { s.Head = filesOf(t, g) }), more, api.ErrForm},
		"Gen below":         {change(func(s *api.Super) { s.Gen = 1 }), more, api.ErrForm},
		"Gen beyond":        {change(func(s *api.Super) { s.Gen = 3 }), more, api.ErrForm},
		"Commit beyond":     {change(func(s *api.Super) { s.Commit = 3 }), more, api.ErrForm},
		"Normal beyond":     {change(func(s *api.Super) { s.Normal = 1 }), more, api.ErrForm},
		"lost ahead":        {change(func(s *api.Super) { s.Normal = 1 }), nil, api.ErrLost},
		"an ancestor below": {change(func(s *api.Super) { s.Head, s.Gen, s.Commit = before.Head, 1, 0 }), nil, api.OK},
	} {
		x := d.Crash(nil)
		g := open(t, x)
		if c.want != api.OK {
			x.Limit(0) // nothing is written
		}
		if e := g.Save(c.s, c.more); e != c.want {
			t.Errorf("%s: %v, not %v", what, e, c.want)
		}
		if c.want != api.OK {
			keeps(t, what, g, before)
			keeps(t, what, open(t, x), before)
		}
	}
}

// P15.5: an elder record that isn't kept any more can't be kept again.
func TestCommitPrunes(t *testing.T) {
	g := lay(t, layDisk(t, 40))
	for i := range uint64(3) {
		step(t, g, call(i+1, api.OpCreate, fmt.Sprint("/", i)))
	}
	s := g.Super()
	keeps(t, "all records", g, s)
	s.Commit = 2
	if e := g.Save(s, nil); e != api.OK {
		t.Fatal(e)
	}
	s.Seq++
	keeps(t, "two records", g, s)
	s.Commit = 1
	if e := g.Save(s, nil); e != api.ErrLost {
		t.Error(e)
	}
}

// P15.5: what a digest of what is kept names isn't taken from elsewhere.
func TestKeptComesFirst(t *testing.T) {
	g := lay(t, layDisk(t, 30))
	s, more := next(t, g, call(1, api.OpCreate, "/a"))
	for h := range g.Bag() {
		more[h] = []byte("x")
	}
	if e := g.Save(s, more); e != api.OK {
		t.Error(e)
	}
}

// P15.5
func TestSave(t *testing.T) {
	d := layDisk(t, 60)
	g := lay(t, d)
	for i := range uint64(12) {
		s, more := next(t, g, call(i+1, api.OpCreate, fmt.Sprint("/", i)))
		s.View, s.Normal, s.Commit, s.Seq = i/2, i/3, i/2, 77
		if e := g.Save(s, more); e != api.OK {
			t.Fatal(e)
		}
		s.Seq = i + 2
		keeps(t, "saved", g, s)
		keeps(t, "it lasts", open(t, d.Crash(nil)), s)
		if data, _ := d.Read(int(s.Seq % 2)); !bytes.Equal(data, sector.Super(s)) {
			t.Errorf("Seq %d isn't in its slot", s.Seq)
		}
	}
}

// P15.5: the blocks, a flush, the slot, a flush, and nothing of what is kept already.
func TestSaveCalls(t *testing.T) {
	d := layDisk(t, 60)
	g := lay(t, d)
	step(t, g, call(1, api.OpCreate, "/a"))
	before := g.Super()
	s, more := next(t, g, call(2, api.OpMkdir, "/b"))
	for n := range len(more) + 4 {
		x := d.Crash(nil)
		g := open(t, x)
		x.Limit(n)
		want := api.ErrDown
		if n == len(more)+3 {
			want = api.OK
		}
		if e := g.Save(s, more); e != want {
			t.Fatalf("%d calls: %v", n, e)
		}
		if want != api.OK {
			keeps(t, "as it was", g, before)
			keeps(t, "nothing of it", open(t, x.Crash(nil)), before)
		}
	}
	x := d.Crash(nil)
	g = open(t, x)
	x.Limit(len(more))
	if e := g.Save(s, more); e != api.ErrDown {
		t.Fatal(e)
	}
	kept, all := g.Bag(), sorted(more)
	back, _ := store.Open(x.Crash(slices.Repeat([]int{1}, len(more))))
	at := 0
	for i := 2; i < 60 && at < len(all); i++ {
		data, _ := x.Crash(slices.Repeat([]int{1}, len(more))).Read(i)
		if b, e := sector.Unwrap(data); e == api.OK && bytes.Equal(b, more[all[at]]) {
			at++
		}
	}
	if at != len(all) {
		t.Error("the blocks weren't put in rising order")
	}
	for h := range kept {
		if !back.Has(h) {
			t.Error("a block that is kept was written over")
		}
	}
}

// P15.5: with no space nothing has changed, and a smaller one may still be saved.
func TestNoSpace(t *testing.T) {
	d := layDisk(t, 6)
	g := lay(t, d)
	before := g.Super()
	s, more := next(t, g, call(1, api.OpCreate, "/a"))
	if e := g.Save(s, more); e != api.ErrNoSpace {
		t.Fatal(e)
	}
	keeps(t, "no space", g, before)
	keeps(t, "no space, opened", open(t, d), before)
	before.View = 5
	if e := g.Save(before, nil); e != api.OK {
		t.Fatal(e)
	}
	before.Seq = 2
	keeps(t, "another view", open(t, d.Crash(nil)), before)
}

// P15.5
func TestLastSeq(t *testing.T) {
	d := layDisk(t, 30)
	g := lay(t, d)
	s := g.Super()
	for seq, want := range map[uint64]api.Errno{1<<64 - 1: api.ErrArg, 1<<64 - 2: api.OK} {
		x := d.Crash(nil)
		s.Seq = seq
		x.Write(int(seq%2), sector.Super(s))
		g := open(t, x)
		if e := g.Save(s, nil); e != want {
			t.Errorf("%d: %v", seq, e)
		}
		if e := g.Save(api.Super{}, nil); want != api.OK && e != api.ErrArg {
			t.Errorf("the Seq ahead of all else: %v", e)
		}
	}
}

// P15.6: whenever the power goes, and whatever becomes of open writes.
func TestNeverAMixture(t *testing.T) {
	rnd := rand.New(rand.NewSource(5))
	kinds := []int{api.OpCreate, api.OpMkdir, api.OpWrite, api.OpRemove, api.OpSnap, api.OpUnsnap, api.OpRollback}
	paths := []string{"/a", "/b", "/a/a", "/a/b", "a", "b"}
	for range 25 {
		d := layDisk(t, 60+rnd.Intn(40))
		g := lay(t, d)
		number := uint64(0)
		for range 40 {
			number++
			s, more := next(t, g, call(number, kinds[rnd.Intn(len(kinds))], paths[rnd.Intn(len(paths))]))
			s.Commit = s.Gen - uint64(rnd.Intn(2))
			before := g.Super()
			d.Limit(rnd.Intn(len(more) + 6))
			e := g.Save(s, more)
			s.Seq = before.Seq + 1
			fates := make([]int, 80)
			for i := range fates {
				fates[i] = rnd.Intn(4) + 4*rnd.Intn(600)
			}
			if e == api.OK || e == api.ErrNoSpace {
				d.Limit(-1)
			}
			back := d.Crash(fates)
			got, f := Open(back)
			if f != api.OK {
				t.Fatalf("Open: %v", f)
			}
			want := s
			if e != api.OK && got.Super() != s {
				want = before
			}
			keeps(t, "behind a crash", got, want)
			d, g = back, got
		}
	}
}

// P15.7
func TestNothingShared(t *testing.T) {
	g := lay(t, layDisk(t, 30))
	s, more := next(t, g, call(1, api.OpCreate, "/a"))
	if e := g.Save(s, more); e != api.OK {
		t.Fatal(e)
	}
	for _, b := range more {
		clear(b)
	}
	clear(more)
	keeps(t, "an argument was kept", g, g.Super())
	bag := g.Bag()
	for h, b := range bag {
		clear(b)
		bag[h] = nil
	}
	clear(bag)
	keeps(t, "an answer is shared", g, g.Super())
	one, two := g.Bag(), g.Bag()
	for _, b := range one {
		clear(b)
	}
	if fmt.Sprint(two) != fmt.Sprint(g.Bag()) {
		t.Error("two answers share memory")
	}
}
