package path

import (
	"slices"
	"strings"
	"testing"

	"trireme/api"
)

// P9.1
func TestName(t *testing.T) {
	for _, s := range []string{"a", "!", "~", "12345678", "..", "\\x"} {
		if !Name(s) {
			t.Errorf("%q is a name", s)
		}
	}
	for _, s := range []string{"", "123456789", "a b", " ", "\x7f", "\x80", "a/b", "/", "\x00", "é", "\xff", strings.Repeat("a", 100000)} {
		if Name(s) {
			t.Errorf("%q is no name", s)
		}
	}
	for b := range 256 {
		if want := b >= 33 && b <= 126 && b != '/'; Name("x"+string([]byte{byte(b)})) != want {
			t.Errorf("byte %d", b)
		}
	}
}

type parts struct {
	path, parent, base string
	names, above       []string
}

func right() []parts {
	return []parts{
		{"/", "", "", nil, nil},
		{"/a", "/", "a", []string{"a"}, []string{"/"}},
		{"/a/bc", "/a", "bc", []string{"a", "bc"}, []string{"/", "/a"}},
		{"/a/a/a", "/a/a", "a", []string{"a", "a", "a"}, []string{"/", "/a", "/a/a"}},
		{"/1234567/12345678/12345", "/1234567/12345678", "12345", []string{"1234567", "12345678", "12345"}, []string{"/", "/1234567", "/1234567/12345678"}},
		{"/1234567/12345678/123456", "/1234567/12345678", "123456", []string{"1234567", "12345678", "123456"}, []string{"/", "/1234567", "/1234567/12345678"}},
		{"/a/b/c/d/e/f/g/h/i/j/k/l", "/a/b/c/d/e/f/g/h/i/j/k", "l", strings.Split("abcdefghijkl", ""),
			[]string{"/", "/a", "/a/b", "/a/b/c", "/a/b/c/d", "/a/b/c/d/e", "/a/b/c/d/e/f", "/a/b/c/d/e/f/g", "/a/b/c/d/e/f/g/h", "/a/b/c/d/e/f/g/h/i", "/a/b/c/d/e/f/g/h/i/j", "/a/b/c/d/e/f/g/h/i/j/k"}},
	}
}

func wrong() []string {
	return []string{"", "a", "a/b", "//", "/a/", "//a", "/a//b", "/123456789", "/a b", "/a/\x7f", "/1234567/12345678/1234567",
		"/a/b/c/d/e/f/g/h/i/j/k/lm", strings.Repeat("/a", 13), strings.Repeat("/a", 50000), " /a", "/a\x00"}
}

// P9.1, P9.2
func TestParts(t *testing.T) {
	for _, c := range right() {
		if e := Check(c.path); e != api.OK {
			t.Errorf("%q: %v", c.path, e)
		}
		if got := Split(c.path); !slices.Equal(got, c.names) {
			t.Errorf("Split of %q: %q", c.path, got)
		}
		if got := Parent(c.path); got != c.parent {
			t.Errorf("Parent of %q: %q", c.path, got)
		}
		if got := Base(c.path); got != c.base {
			t.Errorf("Base of %q: %q", c.path, got)
		}
		if got := Ancestors(c.path); !slices.Equal(got, c.above) {
			t.Errorf("Ancestors of %q: %q", c.path, got)
		}
	}
	for _, p := range wrong() {
		if e := Check(p); e != api.ErrName {
			t.Errorf("%.40q: %v", p, e)
		}
		if len(Split(p)) != 0 || Parent(p) != "" || Base(p) != "" || len(Ancestors(p)) != 0 {
			t.Errorf("%.40q is no path", p)
		}
	}
}

// P9.3
func TestWithin(t *testing.T) {
	for _, c := range []struct {
		p, q string
		want bool
	}{
		{"/", "/", true}, {"/", "/a", true}, {"/a", "/a", true}, {"/a", "/a/b", true}, {"/a", "/a/b/c", true}, {"/a/b", "/a/b/c", true},
		{"/a", "/", false}, {"/a", "/ab", false}, {"/a/b", "/a", false}, {"/b", "/a/b", false}, {"/a/b", "/a/c", false}, {"/ab", "/a/b", false},
	} {
		if Within(c.p, c.q) != c.want {
			t.Errorf("Within(%q, %q): not %t", c.p, c.q, c.want)
		}
	}
	for _, p := range wrong() {
		if Within(p, "/a") || Within("/", p) || Within(p, p) {
			t.Errorf("%.40q is no path", p)
		}
	}
}

// Rule 6: answers are new memory.
func TestNothingShared(t *testing.T) {
	one, two := Split("/a/b"), Split("/a/b")
	three, four := Ancestors("/a/b"), Ancestors("/a/b")
	one[0], three[1] = "!", "!"
	if two[0] != "a" || four[1] != "/a" {
		t.Error("two answers share memory")
	}
}
