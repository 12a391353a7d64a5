package sector

import (
	"bytes"
	"crypto/sha256"
	"encoding/binary"
	"testing"

	"trireme/api"
)

// sectorOf lays texts one behind the other, and noughts up to the end.
func sectorOf(parts ...[]byte) []byte {
	all := bytes.Join(parts, nil)
	return append(all, make([]byte, 512-len(all))...)
}

// P4.1
func TestWrap(t *testing.T) {
	for _, n := range []int{0, 1, 2, 255, 256, 469, 470} {
		block := bytes.Repeat([]byte{7}, n)
		want := sectorOf([]byte{'B', byte(n >> 8), byte(n)}, block)
		s, e := Wrap(block)
		if e != api.OK || !bytes.Equal(s, want) {
			t.Errorf("Wrap of %d bytes: %v, %v", n, e, s)
		}
		if b, e := Unwrap(want); e != api.OK || !bytes.Equal(b, block) {
			t.Errorf("Unwrap of %d bytes: %v, %v", n, e, b)
		}
	}
	for _, n := range []int{471, 512, 70000} {
		if s, e := Wrap(make([]byte, n)); len(s) != 0 || e != api.ErrLong {
			t.Errorf("Wrap of %d bytes: %v, %v", n, s, e)
		}
	}
}

// P4.1
func TestUnwrapRefuses(t *testing.T) {
	right := sectorOf([]byte("B\x00\x02ab"))
	bad := map[string][]byte{
		"nothing": nil, "noughts": make([]byte, 512), "short": right[:511], "long": append(bytes.Clone(right), 0),
		"a block alone": right[:5], "two bytes": []byte("B\x00"),
		"mark":           sectorOf([]byte("b\x00\x02ab")),
		"another mark":   sectorOf([]byte("S\x00\x02ab")),
		"tail":           sectorOf([]byte("B\x00\x02abc")),
		"length beyond":  sectorOf([]byte("B\x02\x00")),
		"471 bytes":      sectorOf([]byte("B\x01\xd7"), make([]byte, 471)),
		"509 bytes":      sectorOf([]byte("B\x01\xfd")),
		"length is much": sectorOf([]byte("B\xff\xff")),
	}
	last := bytes.Clone(right)
	last[511] = 1
	bad["the last byte"] = last
	for what, s := range bad {
		if b, e := Unwrap(s); len(b) != 0 || e != api.ErrForm {
			t.Errorf("%s: %v, %v", what, b, e)
		}
	}
}

func super() api.Super {
	return api.Super{Seq: 1, View: 1 << 40, Normal: 3, Gen: 1<<64 - 1, Commit: 5, Head: api.Hash{9, 8, 31: 7}}
}

// P4.2
func TestSuper(t *testing.T) {
	for _, s := range []api.Super{{}, super()} {
		body := []byte{'S'}
		for _, n := range []uint64{s.Seq, s.View, s.Normal, s.Gen, s.Commit} {
			body = binary.BigEndian.AppendUint64(body, n)
		}
		body = append(body, s.Head[:]...)
		sum := sha256.Sum256(body)
		want := sectorOf(body, sum[:])
		if got := Super(s); !bytes.Equal(got, want) {
			t.Errorf("%v: %v", s, got)
		}
		if got, e := ReadSuper(want); got != s || e != api.OK {
			t.Errorf("%v: %v, %v", s, got, e)
		}
	}
}

// P4.2: any other byte, and any other length, is refused.
func TestReadSuperRefuses(t *testing.T) {
	right := Super(super())
	for i := range right {
		bad := bytes.Clone(right)
		bad[i]++
		if s, e := ReadSuper(bad); s != (api.Super{}) || e != api.ErrForm {
			t.Errorf("byte %d: %v, %v", i, s, e)
		}
	}
	block, _ := Wrap([]byte("ab"))
	for _, bad := range [][]byte{nil, right[:105], right[:511], append(bytes.Clone(right), 0), make([]byte, 512), block} {
		if s, e := ReadSuper(bad); s != (api.Super{}) || e != api.ErrForm {
			t.Errorf("%d bytes: %v, %v", len(bad), s, e)
		}
	}
	if b, e := Unwrap(right); len(b) != 0 || e != api.ErrForm {
		t.Errorf("a node's sector as a block: %v, %v", b, e)
	}
}

func spoil(b []byte) {
	b = b[:cap(b)]
	for i := range b {
		b[i] = '!'
	}
}

// P4.3
func TestNothingShared(t *testing.T) {
	block := []byte("ab")
	s, _ := Wrap(block)
	b, _ := Unwrap(s)
	same := bytes.Clone(s)
	spoil(b)
	if !bytes.Equal(s, same) || string(block) != "ab" {
		t.Error("an answer shares memory")
	}
	spoil(s)
	if again, _ := Wrap(block); string(block) != "ab" || !bytes.Equal(again, same) {
		t.Error("an argument was kept or changed")
	}
	one := Super(super())
	ReadSuper(one)
	two := Super(super())
	spoil(one)
	if !bytes.Equal(two, Super(super())) {
		t.Error("two answers share memory")
	}
}
