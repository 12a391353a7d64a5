package sha

import (
	"bytes"
	"crypto/sha256"
	"encoding/hex"
	"testing"

	"trireme/api"
)

// P3.1
func TestKnownDigests(t *testing.T) {
	for _, c := range []struct{ text, want string }{
		{"", "e3b0c44298fc1c149afbf4c8996fb92427ae41e4649b934ca495991b7852b855"},
		{"abc", "ba7816bf8f01cfea414140de5dae2223b00361a396177a9cb410ff61f20015ad"},
		{"abcdbcdecdefdefgefghfghighijhijkijkljklmklmnlmnomnopnopq", "248d6a61d20638b8e5c026930c3e6039a33ce45964ff2167f6ecedd419db06c1"},
	} {
		h := Sum([]byte(c.text))
		if s := hex.EncodeToString(h[:]); s != c.want {
			t.Errorf("%q: %s", c.text, s)
		}
	}
	if Sum(nil) != Sum([]byte{}) {
		t.Error("nil and nothing differ")
	}
}

func bytesOf(n int) []byte {
	b := make([]byte, n)
	for i := range b {
		b[i] = byte(i*7 + i>>8*13 + n)
	}
	return b
}

// P3.1: all lengths about the edges of chunks, and some long ones.
func TestAllLengths(t *testing.T) {
	for n := range 400 {
		if b := bytesOf(n); Sum(b) != api.Hash(sha256.Sum256(b)) {
			t.Fatalf("%d bytes", n)
		}
	}
	for _, n := range []int{4095, 65536, 1 << 20} {
		if b := bytesOf(n); Sum(b) != api.Hash(sha256.Sum256(b)) {
			t.Errorf("%d bytes", n)
		}
	}
}

// P3.2
func TestPieces(t *testing.T) {
	all := bytesOf(300)
	for step := 1; step < 140; step++ {
		h := New()
		for at := 0; at < len(all); at += step {
			h.Add(nil)
			if h.Sum() != Sum(all[:at]) {
				t.Fatalf("pieces of %d, %d came", step, at)
			}
			h.Sum()
			h.Add(all[at:min(at+step, len(all))])
		}
		if h.Sum() != Sum(all) || h.Sum() != Sum(all) {
			t.Fatalf("pieces of %d", step)
		}
	}
	if New().Sum() != Sum(nil) {
		t.Error("a hasher to which nothing came")
	}
}

// P3.2: each hasher is by itself.
func TestTwoHashers(t *testing.T) {
	a, b := New(), New()
	a.Add([]byte("abc"))
	b.Add([]byte("x"))
	if a.Sum() != Sum([]byte("abc")) || b.Sum() != Sum([]byte("x")) {
		t.Error("two hashers share something")
	}
}

// P3.3
func TestNothingKept(t *testing.T) {
	for _, n := range []int{10, 64, 100} {
		in, same := bytesOf(n), bytesOf(n)
		h := New()
		h.Add(in)
		Sum(in)
		if !bytes.Equal(in, same) {
			t.Error("an argument was changed")
		}
		clear(in)
		if h.Sum() != Sum(same) {
			t.Error("an argument was kept")
		}
	}
}
