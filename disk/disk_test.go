package disk

import (
	"bytes"
	"slices"
	"testing"

	"trireme/api"
)

func full(b byte) []byte { return bytes.Repeat([]byte{b}, api.SectorSize) }

func lay(t *testing.T, sectors int) *Disk {
	t.Helper()
	d, e := New(sectors)
	if e != api.OK || d == nil {
		t.Fatalf("New(%d): %v", sectors, e)
	}
	return d
}

// expect looks at the first byte of each sector, and that all its bytes are that one.
func expect(t *testing.T, what string, d *Disk, want ...byte) {
	t.Helper()
	for i, b := range want {
		if s, e := d.Read(i); e != api.OK || !bytes.Equal(s, full(b)) {
			t.Errorf("%s: sector %d: %v, %v, not all %d", what, i, s, e, b)
		}
	}
}

func do(t *testing.T, what string, got, want api.Errno) {
	t.Helper()
	if got != want {
		t.Errorf("%s: %v, not %v", what, got, want)
	}
}

// P1.1
func TestNewBounds(t *testing.T) {
	for _, n := range []int{-1 << 63, -1, 0, 4097, 1<<63 - 1} {
		if d, e := New(n); d != nil || e != api.ErrArg {
			t.Errorf("New(%d): %v, %v", n, d, e)
		}
	}
	for _, n := range []int{1, 2, 4096} {
		d := lay(t, n)
		if d.Sectors() != n {
			t.Errorf("New(%d): %d sectors", n, d.Sectors())
		}
		for _, i := range []int{0, n - 1} {
			if s, e := d.Read(i); e != api.OK || !bytes.Equal(s, full(0)) {
				t.Errorf("New(%d): sector %d: %v, %v", n, i, s, e)
			}
		}
	}
	d := lay(t, 1)
	for range 10000 {
		do(t, "power without a limit", d.Flush(), api.OK)
	}
}

// P1.2
func TestRead(t *testing.T) {
	d := lay(t, 3)
	d.Write(1, full(1))
	expect(t, "an open write", d, 0, 1, 0)
	d.Write(1, full(2))
	d.Write(2, full(3))
	expect(t, "the later one", d, 0, 2, 3)
	d.Flush()
	expect(t, "flushed", d, 0, 2, 3)
	for _, i := range []int{-1 << 63, -1, 3, 1<<63 - 1} {
		if s, e := d.Read(i); len(s) != 0 || e != api.ErrRange {
			t.Errorf("Read(%d): %v, %v", i, s, e)
		}
	}
	d.Limit(0)
	expect(t, "before the power's end is met", d, 0, 2, 3)
	do(t, "the power's end", d.Flush(), api.ErrDown)
	for _, i := range []int{0, 3, -1} {
		if s, e := d.Read(i); len(s) != 0 || e != api.ErrDown {
			t.Errorf("Read(%d) of a disk that is down: %v, %v", i, s, e)
		}
	}
}

// P1.3
func TestWriteErrors(t *testing.T) {
	d := lay(t, 2)
	do(t, "below", d.Write(-1, full(1)), api.ErrRange)
	do(t, "beyond", d.Write(2, full(1)), api.ErrRange)
	do(t, "range ahead of argument", d.Write(2, nil), api.ErrRange)
	do(t, "too short", d.Write(0, full(1)[1:]), api.ErrArg)
	do(t, "too long", d.Write(0, append(full(1), 1)), api.ErrArg)
	do(t, "nothing", d.Write(0, nil), api.ErrArg)
	expect(t, "nothing written", d, 0, 0)
	expect(t, "no write is open", d.Crash([]int{1, 1, 1, 1, 1, 1}), 0, 0)
	do(t, "right", d.Write(1, full(5)), api.OK)
	expect(t, "open", d.Crash(nil), 0, 0)
	do(t, "flush", d.Flush(), api.OK)
	expect(t, "it lasts", d.Crash(nil), 0, 5)
	expect(t, "none is open any more", d.Crash([]int{2}), 0, 5)
}

// P1.3, P1.4
func TestLimit(t *testing.T) {
	d := lay(t, 2)
	d.Limit(3)
	do(t, "1", d.Write(0, full(1)), api.OK)
	do(t, "refused calls use up nothing", d.Write(2, full(1)), api.ErrRange)
	do(t, "refused calls use up nothing", d.Write(0, nil), api.ErrArg)
	do(t, "2", d.Flush(), api.OK)
	do(t, "3", d.Write(0, full(2)), api.OK)
	do(t, "refused behind the last one", d.Write(0, nil), api.ErrArg)
	do(t, "refused behind the last one", d.Write(-1, full(1)), api.ErrRange)
	expect(t, "still up", d, 2, 0)
	do(t, "the end", d.Write(1, full(3)), api.ErrDown)
	do(t, "down ahead of range", d.Write(9, nil), api.ErrDown)
	do(t, "down", d.Write(0, full(4)), api.ErrDown)
	do(t, "down", d.Flush(), api.ErrDown)
	expect(t, "nothing of it", d.Crash(nil), 1, 0)
	expect(t, "the last open write", d.Crash([]int{1, 1, 1, 1}), 2, 3)
	d.Limit(-1)
	do(t, "it stays down", d.Flush(), api.ErrDown)
	d.Limit(7)
	do(t, "it stays down", d.Write(0, full(1)), api.ErrDown)
	if d.Sectors() != 2 {
		t.Error("sectors of a disk that is down")
	}
}

// P1.4
func TestLimitByFlush(t *testing.T) {
	d := lay(t, 1)
	d.Write(0, full(1))
	d.Limit(0)
	do(t, "the end", d.Flush(), api.ErrDown)
	expect(t, "it flushed nothing", d.Crash(nil), 0)
	expect(t, "the write is open", d.Crash([]int{1}), 1)
}

// P1.4
func TestLimitChanged(t *testing.T) {
	d := lay(t, 1)
	d.Limit(0)
	d.Limit(-5)
	for range 5 {
		do(t, "no limit any more", d.Write(0, full(1)), api.OK)
	}
	d.Limit(0)
	d.Limit(1)
	do(t, "the later limit", d.Write(0, full(2)), api.OK)
	do(t, "the later limit", d.Write(0, full(3)), api.ErrDown)
	back := d.Crash(nil)
	for range 5 {
		do(t, "power without a limit", back.Write(0, full(1)), api.OK)
	}
}

// P1.5
func TestCrashFates(t *testing.T) {
	torn := func(first, n, rest int) []byte {
		return append(full(byte(first))[:n:n], full(byte(rest))[n:]...)
	}
	for _, c := range []struct {
		fate int
		want []byte
	}{
		{0, full(1)}, {1, full(2)}, {2, full(1)}, {3, full(2)}, {4, full(1)}, {5, full(2)},
		{2 + 4*10, torn(2, 10, 1)}, {3 + 4*10, torn(1, 10, 2)},
		{2 + 4*512, full(2)}, {3 + 4*512, full(1)},
		{2 + 4*513, full(1)}, {2 + 4*(513*3+7), torn(2, 7, 1)},
		{-4, full(1)}, {-3, full(2)}, {-2, full(2)}, {-1, full(1)},
		{-2 - 4*10, torn(2, 502, 1)}, {-1 - 4*512, full(2)}, {-1 - 4*10, torn(1, 502, 2)},
		{-2 - 4*513, full(2)}, {-1 << 63, full(1)},
		{1<<63 - 1, torn(1, (1<<61-1)%513, 2)}, {-1<<63 + 2, torn(2, 513-(1<<61)%513, 1)},
	} {
		d := lay(t, 1)
		d.Write(0, full(1))
		d.Flush()
		d.Write(0, full(2))
		if s, e := d.Crash([]int{c.fate}).Read(0); e != api.OK || !bytes.Equal(s, c.want) {
			t.Errorf("fate %d: %v, %v", c.fate, s, e)
		}
	}
}

// P1.5
func TestCrashInOrder(t *testing.T) {
	d := lay(t, 2)
	d.Write(0, full(1))
	d.Write(1, full(2))
	d.Write(0, full(3))
	for _, c := range []struct {
		fates []int
		want  []byte
	}{
		{nil, []byte{0, 0}}, {[]int{1}, []byte{1, 0}}, {[]int{0, 1}, []byte{0, 2}}, {[]int{1, 1, 1}, []byte{3, 2}},
		{[]int{1, 0, 0, 1, 1}, []byte{1, 0}}, {[]int{0, 0, 1}, []byte{3, 0}},
	} {
		expect(t, "crash", d.Crash(c.fates), c.want...)
	}
	back := d.Crash([]int{1, 1, 2 + 4*100})
	if s, _ := back.Read(0); s[99] != 3 || s[100] != 1 {
		t.Error("torn over an open write that came")
	}
	if s, _ := back.Crash(nil).Crash([]int{0, 1}).Read(0); s[99] != 3 || s[100] != 1 {
		t.Error("what came lasts")
	}
	expect(t, "the elder disk stays", d, 3, 2)
	back.Write(1, full(9))
	back.Flush()
	d.Flush()
	expect(t, "each is by itself", d, 3, 2)
}

// P1.6
func TestNothingShared(t *testing.T) {
	d := lay(t, 1)
	data := full(1)
	d.Write(0, data)
	data[0] = 9
	expect(t, "what was handed in isn't kept", d, 1)
	for range 2 { // an open write, then one that lasts
		s, _ := d.Read(0)
		s = s[:cap(s)]
		for i := range s {
			s[i] = 9
		}
		expect(t, "an answer is new memory", d, 1)
		d.Flush()
	}
	fates := []int{1, 2, 3}
	data = full(4)
	d.Write(0, data)
	d.Crash(fates)
	if !bytes.Equal(data, full(4)) || !slices.Equal(fates, []int{1, 2, 3}) {
		t.Error("an argument was changed")
	}
}

// P2
func TestTwoRuns(t *testing.T) {
	run := func() (all []byte) {
		d := lay(t, 3)
		for i := range 9 {
			d.Write(i%3, full(byte(i)))
		}
		back := d.Crash([]int{1, 2 + 4*77, 3 + 4*5, 0, 1, 3 + 4*300})
		for i := range 3 {
			s, _ := back.Read(i)
			all = append(all, s...)
		}
		return all
	}
	if !bytes.Equal(run(), run()) {
		t.Error("two runs differ")
	}
}
