package pack

import (
	"bytes"
	"testing"

	"trireme/api"
)

func do(t *testing.T, what string, got, want api.Errno) {
	t.Helper()
	if got != want {
		t.Errorf("%s: %v, not %v", what, got, want)
	}
}

// P2.1
func TestPenUint(t *testing.T) {
	for _, c := range []struct {
		n    uint64
		size int
		want string
	}{
		{258, 3, "\x00\x01\x02"}, {0, 1, "\x00"}, {255, 1, "\xff"}, {65535, 2, "\xff\xff"}, {256, 2, "\x01\x00"},
		{1<<24 - 1, 3, "\xff\xff\xff"}, {1<<56 - 1, 7, "\xff\xff\xff\xff\xff\xff\xff"},
		{1 << 56, 8, "\x01\x00\x00\x00\x00\x00\x00\x00"}, {1<<64 - 1, 8, "\xff\xff\xff\xff\xff\xff\xff\xff"},
	} {
		p := &Pen{}
		if e := p.Uint(c.n, c.size); e != api.OK || string(p.Data()) != c.want {
			t.Errorf("Uint(%d, %d): %v, %q", c.n, c.size, e, p.Data())
		}
	}
	p := &Pen{}
	p.Raw([]byte("x"))
	for size := 1; size < 8; size++ {
		do(t, "one too great", p.Uint(1<<(8*size), size), api.ErrArg)
		do(t, "much too great", p.Uint(1<<64-1, size), api.ErrArg)
	}
	for _, size := range []int{-1 << 63, -1, 0, 9, 1<<63 - 1} {
		do(t, "no such size", p.Uint(0, size), api.ErrArg)
	}
	if string(p.Data()) != "x" {
		t.Errorf("an error wrote: %q", p.Data())
	}
}

// P2.1
func TestPenText(t *testing.T) {
	p := &Pen{}
	if len(p.Data()) != 0 {
		t.Error("a new Pen has written something")
	}
	do(t, "text", p.Text([]byte("ab")), api.OK)
	do(t, "nothing", p.Text(nil), api.OK)
	do(t, "too long", p.Text(make([]byte, 65536)), api.ErrLong)
	p.Raw(nil)
	p.Raw([]byte("cd"))
	if s := string(p.Data()); s != "\x00\x02ab\x00\x00cd" {
		t.Errorf("%q", s)
	}
	p = &Pen{}
	long := bytes.Repeat([]byte("z"), 65535)
	do(t, "the longest", p.Text(long), api.OK)
	if !bytes.Equal(p.Data(), append([]byte{255, 255}, long...)) {
		t.Error("the longest text")
	}
}

// P2.2
func TestEyeUint(t *testing.T) {
	x := NewEye([]byte("\x00\x01\x02\xff\xff\xff\xff\xff\xff\xff\xff\x07"))
	for _, size := range []int{-1 << 63, -1, 0, 9, 1<<63 - 1} {
		n, e := x.Uint(size)
		if n != 0 || e != api.ErrArg {
			t.Errorf("Uint(%d): %d, %v", size, n, e)
		}
	}
	for _, c := range []struct {
		size int
		want uint64
	}{{3, 258}, {8, 1<<64 - 1}} {
		if n, e := x.Uint(c.size); n != c.want || e != api.OK {
			t.Errorf("Uint(%d): %d, %v", c.size, n, e)
		}
	}
	if n, e := x.Uint(2); n != 0 || e != api.ErrShort {
		t.Errorf("%d, %v", n, e)
	}
	do(t, "a byte is left", x.End(), api.ErrTail)
	if n, e := x.Uint(1); n != 7 || e != api.OK {
		t.Errorf("it didn't stay where it was: %d, %v", n, e)
	}
	do(t, "all read", x.End(), api.OK)
	if n, e := x.Uint(0); n != 0 || e != api.ErrArg {
		t.Errorf("size ahead of shortness: %d, %v", n, e)
	}
	if n, e := x.Uint(1); n != 0 || e != api.ErrShort {
		t.Errorf("nothing left: %d, %v", n, e)
	}
}

// P2.2
func TestEyeText(t *testing.T) {
	x := NewEye([]byte("\x00\x02ab\x00\x00\x00\x03cd"))
	for _, want := range []string{"ab", ""} {
		if s, e := x.Text(); string(s) != want || e != api.OK {
			t.Errorf("%q, %v", s, e)
		}
	}
	if s, e := x.Text(); len(s) != 0 || e != api.ErrShort {
		t.Errorf("%q, %v", s, e)
	}
	if s, e := x.Raw(4); string(s) != "\x00\x03cd" || e != api.OK {
		t.Errorf("it didn't stay where it was: %q, %v", s, e)
	}
	for _, b := range []string{"", "\x00", "\x00\x01", "\xff\xff" + string(make([]byte, 65534))} {
		if s, e := NewEye([]byte(b)).Text(); len(s) != 0 || e != api.ErrShort {
			t.Errorf("%q, %v", s, e)
		}
	}
	x = NewEye([]byte("\x01"))
	if _, e := x.Text(); e != api.ErrShort || x.End() != api.ErrTail {
		t.Error("a text of one byte")
	}
}

// P2.2
func TestEyeRaw(t *testing.T) {
	x := NewEye([]byte("abc"))
	for _, c := range []struct {
		n    int
		want string
		e    api.Errno
	}{
		{-1, "", api.ErrArg}, {-1 << 63, "", api.ErrArg}, {4, "", api.ErrShort}, {1<<63 - 1, "", api.ErrShort},
		{2, "ab", 0}, {0, "", 0}, {2, "", api.ErrShort}, {1, "c", 0}, {0, "", 0}, {1, "", api.ErrShort}, {-1, "", api.ErrArg},
	} {
		if s, e := x.Raw(c.n); string(s) != c.want || e != c.e {
			t.Errorf("Raw(%d): %q, %v", c.n, s, e)
		}
	}
	do(t, "nothing at all", NewEye(nil).End(), api.OK)
}

// P2.3
func TestNothingShared(t *testing.T) {
	p := &Pen{}
	in := []byte("ab")
	p.Raw(in)
	p.Text(in)
	in[0] = '!'
	first := p.Data()
	spoil(first)
	p.Raw([]byte("c"))
	if s := string(p.Data()); s != "ab\x00\x02abc" {
		t.Errorf("%q", s)
	}
	in = []byte("\x00\x02abcd")
	x := NewEye(in)
	in[2] = '!'
	text, _ := x.Text()
	if string(text) != "ab" {
		t.Errorf("an argument was kept: %q", text)
	}
	spoil(text)
	if s, _ := x.Raw(1); string(s) != "c" {
		t.Errorf("%q", s)
	} else {
		spoil(s)
	}
	if s, _ := x.Raw(1); string(s) != "d" {
		t.Errorf("%q", s)
	}
	if string(text[:2]) != "!!" || string(in) != "\x00\x02!bcd" {
		t.Error("an argument or an answer was changed")
	}
}

// spoil writes over a text and its spare room.
func spoil(b []byte) {
	b = b[:cap(b)]
	for i := range b {
		b[i] = '!'
	}
}

// P1, P2: what is written is read again, whatever is cut off of it.
func TestThereAndBack(t *testing.T) {
	p := &Pen{}
	for size := 1; size <= 8; size++ {
		p.Uint(uint64(size), size)
		p.Text(bytes.Repeat([]byte{byte(size)}, size))
	}
	all := p.Data()
	for cut := range len(all) + 1 {
		x, whole := NewEye(all[:cut]), true
		for size := 1; size <= 8 && whole; size++ {
			n, e := x.Uint(size)
			if e == api.OK && n != uint64(size) {
				t.Fatalf("cut %d: %d", cut, n)
			}
			s, f := x.Text()
			whole = e == api.OK && f == api.OK
			if whole && !bytes.Equal(s, bytes.Repeat([]byte{byte(size)}, size)) {
				t.Fatalf("cut %d: %q", cut, s)
			}
		}
		if whole != (cut == len(all)) {
			t.Errorf("cut %d: whole %t", cut, whole)
		}
	}
}
