package store

import (
	"bytes"
	"fmt"
	"math/rand"
	"slices"
	"testing"

	"trireme/api"
	"trireme/disk"
	"trireme/sector"
	"trireme/sha"
)

func layDisk(t *testing.T, sectors int) *disk.Disk {
	t.Helper()
	d, e := disk.New(sectors)
	if e != api.OK {
		t.Fatal(e)
	}
	return d
}

func open(t *testing.T, d *disk.Disk) *Store {
	t.Helper()
	s, e := Open(d)
	if s == nil || e != api.OK {
		t.Fatal(e)
	}
	return s
}

func put(t *testing.T, s *Store, block string, want api.Errno) api.Hash {
	t.Helper()
	h, e := s.Put([]byte(block))
	if e != want {
		t.Fatalf("Put of %.9q: %v, not %v", block, e, want)
	}
	if e == api.OK && h != sum(block) || e != api.OK && h != (api.Hash{}) {
		t.Errorf("Put of %.9q: %x", block, h)
	}
	return h
}

func sum(block string) api.Hash { return sha.Sum([]byte(block)) }

// standsAt: is this block in the sector?
func standsAt(t *testing.T, d *disk.Disk, i int, block string) {
	t.Helper()
	data, e := d.Read(i)
	b, f := sector.Unwrap(data)
	if e != api.OK || f != api.OK || string(b) != block {
		t.Errorf("sector %d: %q, %v, %v, not %q", i, b, e, f, block)
	}
}

func knows(t *testing.T, s *Store, blocks ...string) {
	t.Helper()
	var want []api.Hash
	for _, b := range blocks {
		want = append(want, sum(b))
		got, e := s.Get(sum(b))
		if string(got) != b || e != api.OK || !s.Has(sum(b)) {
			t.Errorf("Get of %q: %q, %v", b, got, e)
		}
	}
	slices.SortFunc(want, func(a, b api.Hash) int { return bytes.Compare(a[:], b[:]) })
	if got := s.Hashes(); !slices.Equal(got, want) {
		t.Errorf("Hashes: %x, not %x", got, want)
	}
}

func free(t *testing.T, s *Store, want int) {
	t.Helper()
	if n := s.Free(); n != want {
		t.Errorf("Free: %d, not %d", n, want)
	}
}

// P5.1
func TestOpen(t *testing.T) {
	d := layDisk(t, 9)
	a, _ := sector.Wrap([]byte("a"))
	b, _ := sector.Wrap([]byte("b"))
	c, _ := sector.Wrap([]byte("c"))
	for i, s := range map[int][]byte{0: c, 1: c, 3: b, 4: a, 6: a, 7: b, 8: sector.Super(api.Super{})} {
		d.Write(i, s)
	}
	d.Flush()
	s := open(t, d)
	knows(t, s, "a", "b")
	free(t, s, 7)
	if s.Has(sum("c")) {
		t.Error("sectors 0 and 1 are for something else")
	}
	s.Hold([]api.Hash{sum("a"), sum("b")})
	free(t, s, 5)
	put(t, s, "x", 0)
	put(t, s, "y", 0)
	put(t, s, "z", 0) // sector 6: the double of a doesn't count
	standsAt(t, d, 2, "x")
	standsAt(t, d, 5, "y")
	standsAt(t, d, 6, "z")
	knows(t, s, "a", "b", "x", "y", "z")
}

// P5.1: a double that wasn't known isn't found when the first one is written over.
func TestDoubleStaysUnknown(t *testing.T) {
	d := layDisk(t, 4)
	a, _ := sector.Wrap([]byte("a"))
	d.Write(2, a)
	d.Write(3, a)
	s := open(t, d)
	put(t, s, "b", 0)
	standsAt(t, d, 2, "b")
	knows(t, s, "b")
	knows(t, open(t, d), "a", "b")
}

// P5.1
func TestOpenDown(t *testing.T) {
	d := layDisk(t, 4)
	d.Limit(0)
	d.Flush()
	if s, e := Open(d); s != nil || e != api.ErrDown {
		t.Errorf("%v, %v", s, e)
	}
}

// P5.2, P5.4: on disks without a sector for blocks.
func TestSmallDisks(t *testing.T) {
	for _, n := range []int{1, 2} {
		s := open(t, layDisk(t, n))
		free(t, s, 0)
		put(t, s, "a", api.ErrNoSpace)
		put(t, s, string(make([]byte, 471)), api.ErrLong)
		knows(t, s)
	}
}

// P5.2
func TestGet(t *testing.T) {
	d := layDisk(t, 5)
	s := open(t, d)
	if b, e := s.Get(sum("a")); len(b) != 0 || e != api.ErrLost || s.Has(sum("a")) {
		t.Errorf("not known: %q, %v", b, e)
	}
	if b, e := s.Get(api.Hash{}); len(b) != 0 || e != api.ErrLost || s.Has(api.Hash{}) {
		t.Errorf("noughts: %q, %v", b, e)
	}
	put(t, s, "a", 0)
	put(t, s, "b", 0)
	put(t, s, "", 0)
	knows(t, s, "a", "b", "")
	other, _ := sector.Wrap([]byte("c"))
	d.Write(2, other)
	d.Write(3, make([]byte, 512))
	for _, b := range []string{"a", "b"} {
		if got, e := s.Get(sum(b)); len(got) != 0 || e != api.ErrLost || !s.Has(sum(b)) {
			t.Errorf("%q isn't there any more: %q, %v", b, got, e)
		}
	}
	d.Limit(0)
	d.Flush()
	for b, want := range map[string]api.Errno{"a": api.ErrDown, "": api.ErrDown, "z": api.ErrLost} {
		if got, e := s.Get(sum(b)); len(got) != 0 || e != want {
			t.Errorf("down: %q: %q, %v", b, got, e)
		}
	}
}

// P5.3
func TestHold(t *testing.T) {
	d := layDisk(t, 6)
	s := open(t, d)
	free(t, s, 4)
	put(t, s, "a", 0)
	put(t, s, "b", 0)
	free(t, s, 2)
	s.Hold([]api.Hash{sum("b"), sum("b"), sum("later")})
	free(t, s, 3)
	put(t, s, "c", 0)
	standsAt(t, d, 2, "c")
	knows(t, s, "b", "c")
	put(t, s, "later", 0)
	standsAt(t, d, 4, "later")
	free(t, s, 1)
	s.Hold(nil)
	free(t, s, 4)
	knows(t, s, "b", "c", "later")
}

// P5.3, P5.4: what is held without being known stays held.
func TestHeldBeforeKnown(t *testing.T) {
	d := layDisk(t, 4)
	s := open(t, d)
	s.Hold([]api.Hash{sum("a")})
	free(t, s, 2)
	put(t, s, "a", 0)
	free(t, s, 1)
	put(t, s, "b", 0)
	put(t, s, "c", api.ErrNoSpace)
	knows(t, s, "a", "b")
}

// P5.4
func TestPut(t *testing.T) {
	d := layDisk(t, 4)
	s := open(t, d)
	put(t, s, "a", 0)
	put(t, s, "b", 0)
	standsAt(t, d, 2, "a")
	standsAt(t, d, 3, "b")
	put(t, s, "c", api.ErrNoSpace)
	put(t, s, string(make([]byte, 471)), api.ErrLong)
	put(t, s, "a", 0) // known: no room is asked for
	s.Hold(nil)
	put(t, s, "a", 0) // held, too
	free(t, s, 1)
	put(t, s, "c", 0)
	standsAt(t, d, 2, "a")
	standsAt(t, d, 3, "c")
	knows(t, s, "a", "c")
	s.Hold(nil)
	long := string(bytes.Repeat([]byte("l"), 470))
	put(t, s, long, 0)
	standsAt(t, d, 2, long)
	knows(t, s, long, "c")
}

// P5.4: nothing is flushed, and nothing is written of what is known.
func TestPutWrites(t *testing.T) {
	d := layDisk(t, 6)
	s := open(t, d)
	d.Limit(2)
	put(t, s, "a", 0)
	put(t, s, "a", 0)
	put(t, s, "b", 0)
	knows(t, open(t, d.Crash(nil)))
	knows(t, open(t, d.Crash([]int{0, 1})), "b")
	put(t, s, "a", 0)
	put(t, s, "c", api.ErrDown)
	put(t, s, "c", api.ErrDown)
	put(t, s, "a", 0) // known, whatever the disk
	free(t, s, 2)
	if s.Has(sum("c")) || len(s.Hashes()) != 2 {
		t.Error("what wasn't written is known")
	}
	knows(t, open(t, d.Crash([]int{1, 1, 1})), "a", "b", "c")
}

// P5.4: the block that stood in a sector stays known if writing it over fails.
func TestFailedPutKeepsTheElder(t *testing.T) {
	d := layDisk(t, 3)
	s := open(t, d)
	put(t, s, "a", 0)
	s.Hold(nil)
	d.Limit(0)
	put(t, s, "b", api.ErrDown)
	if !s.Has(sum("a")) || s.Has(sum("b")) {
		t.Error("the store has changed")
	}
	free(t, s, 1)
}

// P5.2 to P5.4: against a slow model, by many calls.
func TestModel(t *testing.T) {
	rnd := rand.New(rand.NewSource(1))
	for range 60 {
		n := 2 + rnd.Intn(9)
		d := layDisk(t, n)
		s := open(t, d)
		in := make([]string, n)
		held := map[string]bool{}
		for range 80 {
			if rnd.Intn(4) == 0 {
				held = map[string]bool{}
				var list []api.Hash
				for range rnd.Intn(6) {
					b := fmt.Sprint(rnd.Intn(14))
					held[b] = true
					list = append(list, sum(b))
				}
				s.Hold(list)
			}
			b, at, known, room := fmt.Sprint(rnd.Intn(14)), -1, false, 0
			for i := n - 1; i >= 2; i-- {
				known = known || in[i] == b
				if !held[in[i]] {
					at, room = i, room+1
				}
			}
			free(t, s, room)
			if !known && at < 0 {
				put(t, s, b, api.ErrNoSpace)
				continue
			}
			put(t, s, b, 0)
			held[b] = true
			if !known {
				in[at] = b
			}
			var all []string
			for i := 2; i < n; i++ {
				if in[i] != "" {
					all = append(all, in[i])
					standsAt(t, d, i, in[i])
				}
			}
			knows(t, s, all...)
		}
	}
}

// P5.5
func TestNothingShared(t *testing.T) {
	s := open(t, layDisk(t, 5))
	block := []byte("ab")
	h, _ := s.Put(block)
	list := []api.Hash{h}
	s.Hold(list)
	list[0], block[0] = api.Hash{}, '!'
	free(t, s, 2)
	got, _ := s.Get(h)
	got[0] = '!'
	all := s.Hashes()
	all[0] = api.Hash{}
	knows(t, s, "ab")
}
