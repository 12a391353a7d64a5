package snaps

import (
	"fmt"
	"slices"
	"strings"
	"testing"

	"trireme/api"
	"trireme/files"
)

func show(s api.State) string { return fmt.Sprint(s) }

func op(kind int, path string) api.Op { return api.Op{Kind: kind, Path: path} }

// world gives a state by operations, the first one with Gen 1.
func world(t *testing.T, ops ...api.Op) api.State {
	t.Helper()
	s := New()
	for i, o := range ops {
		var a api.Answer
		if s, a = Do(s, o, uint64(i+1)); a.Code != api.OK {
			t.Fatalf("%v: %v", o, a.Code)
		}
		if e := Check(s); e != api.OK {
			t.Fatalf("behind %v: %v", o, e)
		}
	}
	return s
}

func fails(t *testing.T, s api.State, o api.Op, want api.Errno) {
	t.Helper()
	before := show(s)
	next, a := Do(s, o, 99)
	if a.Code != want || a.N != 0 || len(a.Data) != 0 || len(a.Names) != 0 {
		t.Errorf("%v: %v, not %v", o, a, want)
	}
	if show(next) != before || show(s) != before {
		t.Errorf("%v: something has changed", o)
	}
}

func answers(t *testing.T, s api.State, o api.Op, want api.Answer) api.State {
	t.Helper()
	before := show(s)
	next, a := Do(s, o, 99)
	if a.Code != api.OK || a.N != want.N || string(a.Data) != string(want.Data) || !slices.Equal(a.Names, want.Names) {
		t.Errorf("%v: %v, not %v", o, a, want)
	}
	if show(s) != before || Check(next) != api.OK {
		t.Errorf("%v: the argument was changed, or the state isn't right", o)
	}
	return next
}

// P12.1
func TestNewCheckUnits(t *testing.T) {
	s := New()
	if len(s.Snaps) != 0 || fmt.Sprint(s.Files) != fmt.Sprint(files.New()) || Check(s) != api.OK || Units(s) != 1 {
		t.Errorf("New: %v", s)
	}
	some := world(t, op(api.OpCreate, "/a"), op(api.OpSnap, "s"), op(api.OpMkdir, "/b"), op(api.OpSnap, "a")).Files
	snap := func(name string) api.Snap { return api.Snap{Name: name, Gen: 1, Files: files.New()} }
	for _, c := range []struct {
		what  string
		s     api.State
		want  api.Errno
		units int
	}{
		{"nothing", api.State{}, api.ErrForm, 0},
		{"three", api.State{Files: some}, api.OK, 3},
		{"two snapshots", api.State{Files: some, Snaps: []api.Snap{snap("a"), snap("b")}}, api.OK, 7},
		{"the same name", api.State{Files: some, Snaps: []api.Snap{snap("a"), snap("a")}}, api.ErrForm, 7},
		{"names fall", api.State{Files: some, Snaps: []api.Snap{snap("b"), snap("a")}}, api.ErrForm, 7},
		{"no name", api.State{Files: some, Snaps: []api.Snap{snap("")}}, api.ErrForm, 5},
		{"no name, a slash", api.State{Files: some, Snaps: []api.Snap{snap("/a")}}, api.ErrForm, 5},
		{"no files of a snapshot", api.State{Files: some, Snaps: []api.Snap{{Name: "a"}}}, api.ErrForm, 4},
		{"wrong files of the second snapshot", api.State{Files: some, Snaps: []api.Snap{snap("a"), {Name: "b", Files: some[1:]}}}, api.ErrForm, 8},
		{"wrong files", api.State{Files: some[1:], Snaps: []api.Snap{snap("a")}}, api.ErrForm, 4},
	} {
		if e := Check(c.s); e != c.want {
			t.Errorf("%s: %v, not %v", c.what, e, c.want)
		}
		if n := Units(c.s); n != c.units {
			t.Errorf("%s: %d units, not %d", c.what, n, c.units)
		}
	}
}

// P12.1: 48 units are right, 49 aren't.
func TestMostUnits(t *testing.T) {
	s := api.State{Files: files.New()}
	for i := range 23 {
		s.Snaps = append(s.Snaps, api.Snap{Name: fmt.Sprintf("s%02d", i), Files: files.New()})
	}
	if Check(s) != api.OK || Units(s) != 47 {
		t.Errorf("%d units: %v", Units(s), Check(s))
	}
	full, _ := files.Do(s.Files, op(api.OpCreate, "/a"))
	more, _ := files.Do(full, op(api.OpCreate, "/b"))
	s.Files = full
	if Check(s) != api.OK || Units(s) != 48 {
		t.Errorf("%d units: %v", Units(s), Check(s))
	}
	s.Files = more
	if Check(s) != api.ErrForm || Units(s) != 49 {
		t.Errorf("%d units: %v", Units(s), Check(s))
	}
}

// P12.2
func TestSnap(t *testing.T) {
	s := world(t, op(api.OpCreate, "/a"), op(api.OpSnap, "m"), op(api.OpCreate, "/b"))
	for _, name := range []string{"", "/", "a/b", "123456789", "a b"} {
		for _, kind := range []int{api.OpSnap, api.OpUnsnap, api.OpRollback} {
			fails(t, s, op(kind, name), api.ErrName)
		}
	}
	fails(t, s, op(api.OpSnap, "m"), api.ErrExists)
	for _, name := range []string{"a", "z"} {
		next := answers(t, s, op(api.OpSnap, name), api.Answer{})
		i := slices.IndexFunc(next.Snaps, func(s api.Snap) bool { return s.Name == name })
		if len(next.Snaps) != 2 || next.Snaps[i].Gen != 99 || fmt.Sprint(next.Snaps[i].Files) != fmt.Sprint(s.Files) || fmt.Sprint(next.Files) != fmt.Sprint(s.Files) {
			t.Errorf("%v", next)
		}
		if fmt.Sprint(next.Snaps[1-i]) != fmt.Sprint(s.Snaps[0]) {
			t.Error("the other one has changed")
		}
	}
}

// P12.2
func TestUnsnap(t *testing.T) {
	s := world(t, op(api.OpSnap, "a"), op(api.OpCreate, "/a"), op(api.OpSnap, "b"), op(api.OpSnap, "c"))
	fails(t, s, op(api.OpUnsnap, "x"), api.ErrNotFound)
	fails(t, New(), op(api.OpUnsnap, "x"), api.ErrNotFound)
	next := answers(t, s, op(api.OpUnsnap, "b"), api.Answer{})
	want := s
	want.Snaps = []api.Snap{s.Snaps[0], s.Snaps[2]}
	if show(next) != show(want) {
		t.Errorf("%v", next)
	}
}

// P12.2
func TestRollback(t *testing.T) {
	s := world(t, op(api.OpCreate, "/f"), op(api.OpSnap, "s"), op(api.OpRemove, "/f"), op(api.OpMkdir, "/d"))
	fails(t, s, op(api.OpRollback, "x"), api.ErrNotFound)
	next := answers(t, s, op(api.OpRollback, "s"), api.Answer{})
	if fmt.Sprint(next.Files) != fmt.Sprint(s.Snaps[0].Files) || show(api.State{Snaps: next.Snaps}) != show(api.State{Snaps: s.Snaps}) {
		t.Errorf("%v", next)
	}
	answers(t, next, op(api.OpStat, "/f"), api.Answer{Data: []byte("f")})
	fails(t, next, op(api.OpStat, "/d"), api.ErrNotFound)
}

// P12.2
func TestSnaps(t *testing.T) {
	s := New()
	for _, name := range strings.Fields("h b c a e f g d") {
		s, _ = Do(s, op(api.OpSnap, name), 1)
	}
	for _, c := range []struct{ to, want string }{
		{"", "a b c d e f"}, {"a", "b c d e f g"}, {"b!", "c d e f g h"}, {"g", "h"}, {"h", ""}, {strings.Repeat("z", 50), ""}, {"/", "a b c d e f"},
	} {
		answers(t, s, api.Op{Kind: api.OpSnaps, To: c.to, Path: "no name"}, api.Answer{N: 8, Names: strings.Fields(c.want)})
	}
	answers(t, New(), op(api.OpSnaps, ""), api.Answer{})
}

// P12.2: all others are those of the files.
func TestOthers(t *testing.T) {
	s := world(t, op(api.OpSnap, "s"), op(api.OpCreate, "/f"))
	for kind := -1; kind < 16; kind++ {
		if kind >= api.OpSnap && kind <= api.OpSnaps {
			continue
		}
		o := api.Op{Kind: kind, Path: "/f", To: "/g", Off: 2, N: 3, Data: []byte("xy")}
		want, b := files.Do(s.Files, o)
		next, a := Do(s, o, 7)
		if fmt.Sprint(next.Files) != fmt.Sprint(want) || fmt.Sprint(a) != fmt.Sprint(b) || fmt.Sprint(next.Snaps) != fmt.Sprint(s.Snaps) {
			t.Errorf("%v: %v", o, a)
		}
	}
}

// P12.3
func TestFull(t *testing.T) {
	s := New()
	for i := range 23 { // 1 + 2 * 23 units
		s, _ = Do(s, op(api.OpSnap, fmt.Sprintf("s%02d", i)), 1)
	}
	fails(t, s, op(api.OpSnap, "more"), api.ErrFull)
	fails(t, s, op(api.OpSnap, "s00"), api.ErrExists)
	full := answers(t, s, op(api.OpCreate, "/a"), api.Answer{})
	if Units(full) != 48 {
		t.Errorf("%d units", Units(full))
	}
	fails(t, full, op(api.OpCreate, "/b"), api.ErrFull)
	fails(t, full, op(api.OpMkdir, "/b"), api.ErrFull)
	fails(t, full, op(api.OpCreate, "/a"), api.ErrExists)
	fails(t, full, api.Op{Kind: api.OpWrite, Path: "/a", Data: []byte("x")}, api.ErrFull)
	fails(t, full, api.Op{Kind: api.OpTruncate, Path: "/a", N: 1}, api.ErrFull)
	answers(t, full, api.Op{Kind: api.OpWrite, Path: "/a"}, api.Answer{})
	answers(t, full, api.Op{Kind: api.OpRename, Path: "/a", To: "/b"}, api.Answer{})
	answers(t, full, op(api.OpRollback, "s00"), api.Answer{})
	answers(t, full, op(api.OpUnsnap, "s00"), api.Answer{})
}

// P12.3: a rollback may be what makes it too much.
func TestFullByRollback(t *testing.T) {
	s := New()
	for i := range 10 {
		s, _ = Do(s, op(api.OpCreate, fmt.Sprint("/", i)), 1)
	}
	s, _ = Do(s, op(api.OpSnap, "ten"), 1)
	for i := range 10 {
		s, _ = Do(s, op(api.OpRemove, fmt.Sprint("/", i)), 1)
	}
	for i := range 17 { // 13 and 34
		s, _ = Do(s, op(api.OpSnap, fmt.Sprint("s", i)), 1)
	}
	if Units(s) != 47 {
		t.Fatalf("%d units", Units(s))
	}
	fails(t, s, op(api.OpRollback, "ten"), api.ErrFull)
}

func spoil(pairs []api.Pair) {
	for _, p := range pairs {
		p.Key[0], p.Value[0] = '!', '!'
	}
}

// P12.4
func TestNothingShared(t *testing.T) {
	s := world(t, op(api.OpCreate, "/a"), op(api.OpSnap, "s"))
	for _, o := range []api.Op{op(api.OpSnap, "t"), op(api.OpRollback, "s"), op(api.OpUnsnap, "s"), op(api.OpSnaps, ""), op(api.OpCreate, "/b"), op(api.OpSnap, "s")} {
		before := show(s)
		next, _ := Do(s, o, 5)
		spoil(next.Files)
		for i := range next.Snaps {
			if Check(api.State{Files: next.Snaps[i].Files}) != api.OK {
				t.Errorf("%v: files and snapshots share memory", o)
			}
			next.Snaps[i].Name = "!"
		}
		for i := range next.Snaps {
			spoil(next.Snaps[i].Files)
		}
		for _, snap := range next.Snaps[len(next.Snaps):cap(next.Snaps)] {
			spoil(snap.Files)
		}
		if show(s) != before {
			t.Errorf("%v: the argument is shared", o)
		}
	}
}
