package node

import (
	"bytes"
	"fmt"
	"reflect"
	"testing"

	"trireme/api"
)

func pair(key, value string) api.Pair { return api.Pair{Key: []byte(key), Value: []byte(value)} }

func kid(first string, b byte) api.Kid {
	return api.Kid{First: []byte(first), Hash: api.Hash{b, 31: b}}
}

func leaf(pairs ...api.Pair) api.Node { return api.Node{Pairs: pairs} }

func inner(level int, kids ...api.Kid) api.Node { return api.Node{Level: level, Kids: kids} }

func hash(b byte) string {
	h := api.Hash{b, 31: b}
	return string(h[:])
}

// P7.1, P7.2
func TestThereAndBack(t *testing.T) {
	for _, c := range []struct {
		n    api.Node
		want string
	}{
		{leaf(), "T\x00\x00"},
		{leaf(pair("", "")), "T\x00\x01\x00\x00\x00\x00"},
		{leaf(pair("a", "xyz"), pair("ab", "")), "T\x00\x02\x00\x01a\x00\x03xyz\x00\x02ab\x00\x00"},
		{leaf(pair("a\xff", "1"), pair("b", "2")), "T\x00\x02\x00\x02a\xff\x00\x011\x00\x01b\x00\x012"},
		{inner(1, kid("", 7)), "T\x01\x01\x00\x00" + hash(7)},
		{inner(15, kid("a", 1), kid("b", 1), kid("ba", 2), kid("c", 3)),
			"T\x0f\x04\x00\x01a" + hash(1) + "\x00\x01b" + hash(1) + "\x00\x02ba" + hash(2) + "\x00\x01c" + hash(3)},
	} {
		b, e := Write(c.n)
		if string(b) != c.want || e != api.OK {
			t.Errorf("Write of %v: %q, %v", c.n, b, e)
		}
		n, e := Read([]byte(c.want))
		if e != api.OK || !same(n, c.n) {
			t.Errorf("Read of %q: %v, %v", c.want, n, e)
		}
	}
}

func same(a, b api.Node) bool {
	return a.Level == b.Level && fmt.Sprintf("%q", a.Pairs) == fmt.Sprintf("%q", b.Pairs) && fmt.Sprint(a.Kids) == fmt.Sprint(b.Kids)
}

func many(n int) (pairs []api.Pair) {
	for i := range n {
		pairs = append(pairs, pair(fmt.Sprintf("%04d", i), ""))
	}
	return pairs
}

// P7.1
func TestWriteErrors(t *testing.T) {
	long := string(make([]byte, 65536))
	for _, c := range []struct {
		what string
		n    api.Node
		want api.Errno
	}{
		{"level below", api.Node{Level: -1}, api.ErrArg},
		{"level below, with kids", inner(-1, kid("", 1)), api.ErrArg},
		{"level beyond", inner(16, kid("", 1)), api.ErrArg},
		{"level far beyond", inner(256, kid("", 1)), api.ErrArg},
		{"leaf with kids", api.Node{Kids: []api.Kid{kid("", 1)}}, api.ErrArg},
		{"inner with pairs", api.Node{Level: 1, Kids: []api.Kid{kid("", 1)}, Pairs: []api.Pair{pair("", "")}}, api.ErrArg},
		{"inner without kids", inner(1), api.ErrArg},
		{"five kids", inner(1, kid("a", 1), kid("b", 1), kid("c", 1), kid("d", 1), kid("e", 1)), api.ErrArg},
		{"equal keys", leaf(pair("a", "1"), pair("a", "2")), api.ErrArg},
		{"falling keys", leaf(pair("ab", "1"), pair("a", "2")), api.ErrArg},
		{"falling at the end", leaf(pair("a", ""), pair("c", ""), pair("b", "")), api.ErrArg},
		{"equal firsts", inner(2, kid("a", 1), kid("a", 2)), api.ErrArg},
		{"falling firsts", inner(2, kid("b", 1), kid("a", 2)), api.ErrArg},
		{"256 pairs", leaf(many(256)...), api.ErrArg},
		{"255 pairs", leaf(many(255)...), api.ErrLong},
		{"470 bytes", leaf(pair("", string(make([]byte, 463)))), api.OK},
		{"471 bytes", leaf(pair("", string(make([]byte, 464)))), api.ErrLong},
		{"471 bytes by the key", leaf(pair(string(make([]byte, 464)), "")), api.ErrLong},
		{"470 bytes of kids", inner(1, kid(string(make([]byte, 433)), 1)), api.OK},
		{"471 bytes of kids", inner(1, kid(string(make([]byte, 434)), 1)), api.ErrLong},
		{"a long key", leaf(pair(long, "")), api.ErrLong},
		{"a long value", leaf(pair("", long)), api.ErrLong},
		{"a long first", inner(1, kid(long, 1)), api.ErrLong},
		{"argument ahead of length", leaf(pair(long, ""), pair("", "")), api.ErrArg},
	} {
		b, e := Write(c.n)
		if e != c.want || e != api.OK && len(b) != 0 {
			t.Errorf("%s: %v", c.what, e)
		}
		if e == api.OK {
			if n, e := Read(b); e != api.OK || !same(n, c.n) {
				t.Errorf("%s: read: %v", c.what, e)
			}
		}
	}
}

// P7.2
func TestReadRefuses(t *testing.T) {
	right := []string{
		"T\x00\x02\x00\x01a\x00\x03xyz\x00\x02ab\x00\x00",
		"T\x0f\x02\x00\x01a" + hash(1) + "\x00\x01b" + hash(1),
		"T\x00\x00",
	}
	var bad []string
	for _, b := range right {
		for cut := range len(b) {
			bad = append(bad, b[:cut])
		}
		bad = append(bad, b+"\x00", "t"+b[1:], "T\x10"+b[2:], b[:2]+"\xff"+b[3:], b[:2]+string(b[2]+1)+b[3:])
	}
	bad = append(bad,
		"T\x01\x00", "T\x00\x01", "T\x01\x05"+"\x00\x01a"+hash(1)+"\x00\x01b"+hash(1)+"\x00\x01c"+hash(1)+"\x00\x01d"+hash(1)+"\x00\x01e"+hash(1),
		"T\x00\x02\x00\x01a\x00\x00\x00\x01a\x00\x00", "T\x00\x02\x00\x01b\x00\x00\x00\x01a\x00\x00",
		"T\x01\x02\x00\x01a"+hash(1)+"\x00\x01a"+hash(2),
		"T\x00\x01\x00\x00\x01\xd0"+string(make([]byte, 464)), string(make([]byte, 470)), string(make([]byte, 70000)),
	)
	for _, b := range bad {
		if n, e := Read([]byte(b)); e != api.ErrForm || !reflect.DeepEqual(n, api.Node{}) {
			t.Errorf("%q: %v, %v", b, n, e)
		}
	}
}

// P7.3
func TestNothingShared(t *testing.T) {
	n := leaf(pair("a", "x"), pair("b", "y"))
	b, _ := Write(n)
	block := bytes.Clone(b)
	got, _ := Read(block)
	for i := range b {
		b[i] = '!'
	}
	if !same(n, leaf(pair("a", "x"), pair("b", "y"))) {
		t.Error("a node shares memory with its block")
	}
	for _, p := range got.Pairs {
		for _, text := range [][]byte{p.Key, p.Value} {
			text = text[:cap(text)]
			for i := range text {
				text[i] = '!'
			}
		}
		p.Key[0] = 'k'
	}
	if string(got.Pairs[0].Value) != "!" || string(got.Pairs[1].Value) != "!" {
		t.Error("texts of one answer share memory")
	}
	if n, e := Read(block); e != api.OK || !same(n, leaf(pair("a", "x"), pair("b", "y"))) {
		t.Error("a block shares memory with its node")
	}
}
