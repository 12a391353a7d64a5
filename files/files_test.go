package files

import (
	"bytes"
	"fmt"
	"math/rand"
	"slices"
	"strings"
	"testing"

	"trireme/api"
	"trireme/path"
)

func pair(key, value string) api.Pair { return api.Pair{Key: []byte(key), Value: []byte(value)} }

func show(pairs []api.Pair) string { return fmt.Sprintf("%q", pairs) }

func text(n int) string {
	b := make([]byte, n)
	for i := range b {
		b[i] = byte('a' + i%26)
	}
	return string(b)
}

// world gives files by many operations, all of which are OK.
func world(t *testing.T, ops ...api.Op) []api.Pair {
	t.Helper()
	f := New()
	for _, o := range ops {
		var a api.Answer
		if f, a = Do(f, o); a.Code != api.OK {
			t.Fatalf("%v: %v", o, a.Code)
		}
		if e := Check(f); e != api.OK {
			t.Fatalf("behind %v: %v", o, e)
		}
	}
	return f
}

func op(kind int, path string) api.Op { return api.Op{Kind: kind, Path: path} }

func create(p string) api.Op { return op(api.OpCreate, p) }

func mkdir(p string) api.Op { return op(api.OpMkdir, p) }

func write(p string, off int, data string) api.Op {
	return api.Op{Kind: api.OpWrite, Path: p, Off: off, Data: []byte(data)}
}

func read(p string, off, n int) api.Op { return api.Op{Kind: api.OpRead, Path: p, Off: off, N: n} }

func truncate(p string, n int) api.Op { return api.Op{Kind: api.OpTruncate, Path: p, N: n} }

func rename(p, to string) api.Op { return api.Op{Kind: api.OpRename, Path: p, To: to} }

// fails: this is answered, with nothing else, and nothing has changed.
func fails(t *testing.T, f []api.Pair, o api.Op, want api.Errno) {
	t.Helper()
	before := show(f)
	g, a := Do(f, o)
	if a.Code != want || a.N != 0 || len(a.Data) != 0 || len(a.Names) != 0 {
		t.Errorf("%v: %v, not %v", o, a, want)
	}
	if show(g) != before || show(f) != before {
		t.Errorf("%v: something has changed", o)
	}
}

// answers: this is answered, and these are the files then.
func answers(t *testing.T, f []api.Pair, o api.Op, want api.Answer) []api.Pair {
	t.Helper()
	before := show(f)
	g, a := Do(f, o)
	if a.Code != api.OK || a.N != want.N || string(a.Data) != string(want.Data) || !slices.Equal(a.Names, want.Names) {
		t.Errorf("%v: %q, not %q", o, fmt.Sprint(a), fmt.Sprint(want))
	}
	if show(f) != before {
		t.Errorf("%v: an argument was changed", o)
	}
	if e := Check(g); e != api.OK {
		t.Errorf("%v: %v", o, e)
	}
	return g
}

// P11.1
func TestNewAndPairs(t *testing.T) {
	if got := show(New()); got != show([]api.Pair{pair("n/", "d")}) {
		t.Errorf("%s", got)
	}
	f := world(t, mkdir("/a"), create("/a/b"), write("/a/b", 0, text(64)), write("/a/b", 64, text(64)), write("/a/b", 128, "xy"), create("/c"), create("/b"), write("/b", 0, text(64)))
	want := []api.Pair{
		pair("c/a/b\x00\x00", text(64)), pair("c/a/b\x00\x01", text(64)), pair("c/a/b\x00\x02", "xy"), pair("c/b\x00\x00", text(64)),
		pair("n/", "d"), pair("n/a", "d"), pair("n/a/b", "f\x00\x82"), pair("n/b", "f\x00\x40"), pair("n/c", "f\x00\x00"),
	}
	if show(f) != show(want) {
		t.Errorf("%s", show(f))
	}
	if e := Check(want); e != api.OK {
		t.Error(e)
	}
}

// P11.1
func TestCheckRefuses(t *testing.T) {
	root, dir := pair("n/", "d"), pair("n/a", "d")
	empty, ten := pair("n/f", "f\x00\x00"), pair("n/f", "f\x00\x0a")
	for what, f := range map[string][]api.Pair{
		"nothing": nil, "no root": {dir}, "root is a file": {pair("n/", "f\x00\x00")}, "root twice": {root, root},
		"out of order": {dir, root}, "an empty key": {pair("", ""), root}, "an empty key alone": {pair("", "")},
		"another mark": {root, pair("o/a", "d")}, "a key of one byte": {pair("c", ""), root}, "another one": {pair("n", "d"), root},
		"no path": {root, pair("na", "d")}, "a long name": {root, pair("n/123456789", "d")}, "a slash behind": {root, dir, pair("n/a/", "d")},
		"no parent": {root, pair("n/a/b", "d")}, "in a file": {root, empty, pair("n/f/b", "d")}, "no grandparent": {root, pair("n/a/b", "d"), pair("n/a/b/c", "d")},
		"no value": {root, pair("n/a", "")}, "long value": {root, pair("n/a", "dd")}, "another kind": {root, pair("n/a", "x")},
		"a short size": {root, pair("n/f", "f\x00")}, "a long size": {root, pair("n/f", "f\x00\x00\x00")}, "too big": {root, pair("n/f", "f\x00\xc1")},
		"too big, with its bytes": {pair("c/f\x00\x00", text(64)), pair("c/f\x00\x01", text(64)), pair("c/f\x00\x02", text(64)), pair("c/f\x00\x03", "x"), root, pair("n/f", "f\x00\xc1")},
		"big":                     {root, pair("n/f", "f\xff\xff")}, "a chunk too few": {root, ten}, "a chunk too many": {pair("c/f\x00\x00", ""), root, empty},
		"a short chunk": {pair("c/f\x00\x00", text(9)), root, ten}, "a long chunk": {pair("c/f\x00\x00", text(11)), root, ten},
		"a chunk of a directory": {pair("c/a\x00\x00", "x"), root, dir}, "a chunk of nothing": {pair("c/x\x00\x00", "x"), root},
		"another number": {pair("c/f\x00\x01", text(10)), root, ten}, "no nought": {pair("c/f\x01\x00", text(10)), root, ten},
		"no number": {pair("c/f\x00", text(10)), root, ten}, "a chunk twice": {pair("c/f\x00\x00", text(10)), pair("c/f\x00\x00", text(10)), root, ten},
		"a long first chunk": {pair("c/f\x00\x00", text(65)), pair("c/f\x00\x01", text(63)), root, pair("n/f", "f\x00\x80")},
		"no first chunk":     {pair("c/f\x00\x01", text(64)), root, pair("n/f", "f\x00\x80")},
		"chunks behind":      {root, ten, pair("c/f\x00\x00", text(10))},
		"the last too few":   {pair("c/f\x00\x00", text(64)), root, pair("n/f", "f\x00\x41")},
		"the last too many":  {pair("c/f\x00\x00", text(64)), pair("c/f\x00\x01", ""), root, pair("n/f", "f\x00\x40")},
	} {
		if e := Check(f); e != api.ErrForm {
			t.Errorf("%s: %v", what, e)
		}
		for kind := range 16 { // P1: it ends without a panic
			Do(f, api.Op{Kind: kind, Path: "/a", To: "/b", N: 5, Data: []byte("x")})
		}
	}
	if e := Check([]api.Pair{pair("c/f\x00\x00", text(64)), pair("c/f\x00\x01", text(64)), pair("c/f\x00\x02", text(64)), root, pair("n/f", "f\x00\xc0")}); e != api.OK {
		t.Error(e)
	}
}

// tall gives a world with what the errors of looking and of making room ask for.
func tall(t *testing.T) []api.Pair {
	return world(t, mkdir("/d"), create("/d/f"), mkdir("/d/e"), create("/f"), write("/f", 0, "hello"))
}

// P11.2, P11.3
func TestLooking(t *testing.T) {
	f := tall(t)
	for _, c := range []struct {
		path string
		want api.Errno
	}{
		{"", api.ErrName}, {"d", api.ErrName}, {"/d/", api.ErrName}, {"//", api.ErrName}, {"/123456789", api.ErrName},
		{"/x", api.ErrNotFound}, {"/x/y", api.ErrNotFound}, {"/x/y/z", api.ErrNotFound}, {"/d/x", api.ErrNotFound}, {"/d/x/y", api.ErrNotFound},
		{"/f/x", api.ErrNotDir}, {"/f/x/y", api.ErrNotDir}, {"/d/f/x", api.ErrNotDir},
	} {
		for _, kind := range []int{api.OpWrite, api.OpTruncate, api.OpRead, api.OpRemove, api.OpList, api.OpStat} {
			fails(t, f, api.Op{Kind: kind, Path: c.path, Off: -1, N: -1}, c.want)
		}
		fails(t, f, rename(c.path, "/new"), c.want)
		if c.want != api.ErrName {
			fails(t, f, rename(c.path, "no path"), api.ErrName)
		}
	}
}

// P11.2, P11.3
func TestMakingRoom(t *testing.T) {
	f := tall(t)
	for _, c := range []struct {
		path string
		want api.Errno
	}{
		{"", api.ErrName}, {"x", api.ErrName}, {"/x/", api.ErrName}, {"/", api.ErrExists}, {"/d", api.ErrExists}, {"/f", api.ErrExists}, {"/d/f", api.ErrExists},
		{"/x/y", api.ErrNotFound}, {"/d/x/y", api.ErrNotFound}, {"/x/y/z", api.ErrNotFound}, {"/f/x", api.ErrNotDir}, {"/d/f/x", api.ErrNotDir}, {"/f/x/y", api.ErrNotDir},
	} {
		fails(t, f, create(c.path), c.want)
		fails(t, f, mkdir(c.path), c.want)
		if !path.Within("/d/e", c.path) {
			fails(t, f, rename("/d/e", c.path), c.want)
		}
	}
	g := answers(t, f, create("/d/e/n"), api.Answer{})
	answers(t, g, op(api.OpStat, "/d/e/n"), api.Answer{Data: []byte("f")})
	g = answers(t, f, mkdir("/d/e/n"), api.Answer{})
	answers(t, g, op(api.OpStat, "/d/e/n"), api.Answer{Data: []byte("d")})
}

// P11.3
func TestWrite(t *testing.T) {
	f := tall(t)
	fails(t, f, write("/d", -1, "x"), api.ErrIsDir)
	fails(t, f, write("/", 0, "x"), api.ErrIsDir)
	for _, off := range []int{-1, -1 << 63} {
		fails(t, f, write("/f", off, text(300)), api.ErrArg)
	}
	for _, c := range []struct{ off, n int }{{193, 0}, {192, 1}, {129, 64}, {0, 193}, {1<<63 - 1, 64}, {1<<63 - 1, 0}, {5, 1000}} {
		fails(t, f, write("/f", c.off, text(c.n)), api.ErrBig)
	}
	for _, c := range []struct {
		off        int
		data, want string
	}{
		{0, "J", "Jello"}, {4, "xy", "hellxy"}, {5, "xy", "helloxy"}, {7, "x", "hello\x00\x00x"}, {0, "", "hello"}, {192, "", "hello"}, {3, "", "hello"},
		{128, text(64), "hello" + string(make([]byte, 123)) + text(64)}, {191, "z", "hello" + string(make([]byte, 186)) + "z"}, {0, text(192), text(192)}, {62, "abcd", "hello" + string(make([]byte, 57)) + "abcd"},
	} {
		g := answers(t, f, write("/f", c.off, c.data), api.Answer{N: len(c.data)})
		contains(t, g, "/f", c.want)
		contains(t, g, "/d/f", "")
	}
}

// contains: these are a file's bytes.
func contains(t *testing.T, f []api.Pair, p, want string) {
	t.Helper()
	got := ""
	for off := 0; off < 192; off += 64 {
		_, a := Do(f, read(p, off, 64))
		if a.Code != api.OK || a.N != len(want) {
			t.Errorf("%s: %v", p, a)
		}
		got += string(a.Data)
	}
	if got != want {
		t.Errorf("%s: %q, not %q", p, got, want)
	}
}

// P11.3
func TestTruncate(t *testing.T) {
	f := tall(t)
	fails(t, f, truncate("/d", -1), api.ErrIsDir)
	fails(t, f, truncate("/f", -1), api.ErrArg)
	fails(t, f, truncate("/f", 193), api.ErrBig)
	fails(t, f, truncate("/f", 1<<63-1), api.ErrBig)
	for _, n := range []int{0, 1, 4, 5, 6, 64, 65, 192} {
		g := answers(t, f, truncate("/f", n), api.Answer{})
		contains(t, g, "/f", ("hello" + string(make([]byte, 192)))[:n])
	}
	g := world(t, create("/f"), write("/f", 0, "abc"), truncate("/f", 1), truncate("/f", 3))
	contains(t, g, "/f", "a\x00\x00")
}

// P11.3
func TestRead(t *testing.T) {
	f := world(t, mkdir("/d"), create("/f"), write("/f", 0, text(100)))
	fails(t, f, read("/d", -1, 0), api.ErrIsDir)
	fails(t, f, read("/f", -1, 5), api.ErrArg)
	fails(t, f, read("/f", 0, -1), api.ErrArg)
	fails(t, f, read("/f", 500, -1<<63), api.ErrArg)
	for _, c := range []struct {
		off, n int
		want   string
	}{
		{0, 0, ""}, {0, 1, "a"}, {0, 64, text(64)}, {0, 65, text(64)}, {0, 1<<63 - 1, text(64)}, {60, 10, text(100)[60:70]},
		{99, 64, text(100)[99:]}, {90, 64, text(100)[90:]}, {100, 5, ""}, {101, 5, ""}, {1<<63 - 1, 1<<63 - 1, ""},
	} {
		g := answers(t, f, read("/f", c.off, c.n), api.Answer{N: 100, Data: []byte(c.want)})
		if show(g) != show(f) {
			t.Error("Read has changed something")
		}
	}
}

// P11.3
func TestRename(t *testing.T) {
	f := world(t, mkdir("/a"), mkdir("/a/b"), create("/a/b/c"), write("/a/b/c", 0, text(70)), mkdir("/ab"), create("/f"))
	fails(t, f, rename("no", "/x"), api.ErrName)
	fails(t, f, rename("/no", "x"), api.ErrName)
	fails(t, f, rename("/", "/x"), api.ErrSelf)
	fails(t, f, rename("/", "/"), api.ErrSelf)
	fails(t, f, rename("/a", "/a"), api.ErrSelf)
	fails(t, f, rename("/a", "/a/b"), api.ErrSelf)
	fails(t, f, rename("/a", "/a/x"), api.ErrSelf)
	fails(t, f, rename("/a", "/a/x/y/z"), api.ErrSelf)
	fails(t, f, rename("/f", "/f/x"), api.ErrSelf)
	fails(t, f, rename("/no", "/no/x"), api.ErrNotFound)
	fails(t, f, rename("/a/b", "/"), api.ErrExists)
	fails(t, f, rename("/a/b", "/a"), api.ErrExists)
	fails(t, f, rename("/a", "/ab"), api.ErrExists)
	fails(t, f, rename("/a", "/f/x"), api.ErrNotDir)
	fails(t, f, rename("/a", "/x/y"), api.ErrNotFound)

	g := answers(t, f, rename("/a", "/abc"), api.Answer{})
	want := world(t, mkdir("/abc"), mkdir("/abc/b"), create("/abc/b/c"), write("/abc/b/c", 0, text(70)), mkdir("/ab"), create("/f"))
	if show(g) != show(want) {
		t.Errorf("%s", show(g))
	}
	g = answers(t, f, rename("/a/b", "/ab/x"), api.Answer{})
	want = world(t, mkdir("/a"), mkdir("/ab"), mkdir("/ab/x"), create("/ab/x/c"), write("/ab/x/c", 0, text(70)), create("/f"))
	if show(g) != show(want) {
		t.Errorf("%s", show(g))
	}
	g = answers(t, f, rename("/f", "/a/b/f"), api.Answer{})
	contains(t, g, "/a/b/f", "")
}

// P11.3: what moves must not come beyond MaxPath.
func TestRenameTooLong(t *testing.T) {
	f := world(t, mkdir("/a"), mkdir("/a/1234567"), create("/a/1234567/12345"), mkdir("/12345678"))
	fails(t, f, rename("/a", "/12345678/b"), api.ErrName)           // 11 + 14 bytes
	answers(t, f, rename("/a", "/1234567/b"[:8]+"9"), api.Answer{}) // 9 + 14 bytes
	g := world(t, mkdir("/a"), mkdir("/a/123456"), create("/a/123456/12345"), mkdir("/12345678"))
	answers(t, g, rename("/a", "/12345678/b"), api.Answer{}) // 11 + 13 bytes
	fails(t, f, rename("/a", "/12345678/12345678/1234567"), api.ErrName)
	fails(t, f, rename("/a", "/x/12345678/12"), api.ErrNotFound)
}

// P11.3
func TestRemove(t *testing.T) {
	f := world(t, mkdir("/a"), create("/a/b"), write("/a/b", 0, text(70)), mkdir("/ab"))
	fails(t, f, op(api.OpRemove, "/"), api.ErrSelf)
	fails(t, New(), op(api.OpRemove, "/"), api.ErrSelf)
	fails(t, f, op(api.OpRemove, "/a"), api.ErrNotEmpty)
	g := answers(t, f, op(api.OpRemove, "/a/b"), api.Answer{})
	if show(g) != show(world(t, mkdir("/a"), mkdir("/ab"))) {
		t.Errorf("%s", show(g))
	}
	g = answers(t, g, op(api.OpRemove, "/a"), api.Answer{})
	fails(t, g, op(api.OpRemove, "/a"), api.ErrNotFound)
}

// P11.3
func TestListAndStat(t *testing.T) {
	f := world(t, mkdir("/d"), create("/d/h"), create("/d/b"), mkdir("/d/c"), create("/d/c/x"), create("/d/a"), create("/d/e"), create("/d/f"), create("/d/g"), create("/d/B"), create("/f"), write("/f", 2, "abc"))
	for _, c := range []struct {
		path, to string
		n        int
		want     string
	}{
		{"/", "", 2, "d f"}, {"/d", "", 8, "B a b c e f"}, {"/d", "f", 8, "g h"}, {"/d", "bb", 8, "c e f g h"}, {"/d", "h", 8, ""},
		{"/d", "a\xff", 8, "b c e f g h"}, {"/d", "C", 8, "a b c e f g"}, {"/d/c", "", 1, "x"}, {"/d/c", strings.Repeat("z", 99), 1, ""}, {"/d", "/", 8, "B a b c e f"},
	} {
		answers(t, f, api.Op{Kind: api.OpList, Path: c.path, To: c.to}, api.Answer{N: c.n, Names: strings.Fields(c.want)})
	}
	fails(t, f, op(api.OpList, "/f"), api.ErrNotDir)
	answers(t, New(), op(api.OpList, "/"), api.Answer{})
	answers(t, f, op(api.OpStat, "/"), api.Answer{N: 2, Data: []byte("d")})
	answers(t, f, op(api.OpStat, "/d"), api.Answer{N: 8, Data: []byte("d")})
	answers(t, f, op(api.OpStat, "/f"), api.Answer{N: 5, Data: []byte("f")})
	answers(t, f, op(api.OpStat, "/d/h"), api.Answer{N: 0, Data: []byte("f")})
}

// P11.3
func TestOtherKinds(t *testing.T) {
	for _, kind := range []int{-1 << 63, -1, 0, api.OpSnap, api.OpUnsnap, api.OpRollback, api.OpSnaps, 14, 1<<63 - 1} {
		fails(t, tall(t), api.Op{Kind: kind, Path: "/f", To: "/x"}, api.ErrArg)
		fails(t, tall(t), api.Op{Kind: kind, Path: "no path"}, api.ErrArg)
	}
}

// P11.1, P11.3: whatever is done, the files stay right, and what fails changes nothing.
func TestManyOperations(t *testing.T) {
	rnd := rand.New(rand.NewSource(4))
	paths := []string{"/", "/a", "/b", "/a/a", "/a/b", "/b/a", "/a/a/a", "/a/b/12345678", "/a/b/12345678/a", "/c", "no"}
	for range 30 {
		f := New()
		for range 200 {
			o := api.Op{Kind: 1 + rnd.Intn(9), Path: paths[rnd.Intn(len(paths))], To: paths[rnd.Intn(len(paths))],
				Off: rnd.Intn(200) - 3, N: rnd.Intn(200) - 3, Data: []byte(text(rnd.Intn(65)))}
			g, a := Do(f, o)
			if Check(g) != api.OK || a.Code != api.OK && show(g) != show(f) {
				t.Fatalf("%v on %s: %v, %s", o, show(f), a, show(g))
			}
			same, b := Do(f, o)
			if show(same) != show(g) || fmt.Sprint(a) != fmt.Sprint(b) {
				t.Fatalf("%v: twice the same differs", o)
			}
			f = g
		}
	}
}

func spoil(b []byte) {
	b = b[:cap(b)]
	for i := range b {
		b[i] = '!'
	}
}

// P11.4
func TestNothingShared(t *testing.T) {
	f := world(t, create("/f"), write("/f", 0, text(70)))
	for _, o := range []api.Op{write("/f", 1, "xyz"), read("/f", 0, 9), create("/g"), create("/f")} {
		before := show(f)
		in := bytes.Clone(o.Data)
		g, a := Do(f, o)
		after := show(g)
		spoil(a.Data)
		spoil(o.Data)
		if show(g) != after || show(f) != before {
			t.Errorf("%v: the answer or the operation is shared", o)
		}
		for _, p := range g {
			spoil(p.Key)
			spoil(p.Value)
		}
		if show(f) != before {
			t.Errorf("%v: the files are shared", o)
		}
		o.Data = in
	}
	g, _ := Do(world(t, create("/f"), truncate("/f", 192)), write("/f", 0, text(192)))
	spoil(g[0].Value)
	spoil(g[0].Key)
	if string(g[1].Value) != text(192)[64:128] || string(g[2].Value) != text(192)[128:] || string(g[1].Key) != "c/f\x00\x01" {
		t.Error("texts of one answer share memory")
	}
	one, two := New(), New()
	spoil(one[0].Key)
	if show(two) != show([]api.Pair{pair("n/", "d")}) {
		t.Error("two answers are shared")
	}
}
