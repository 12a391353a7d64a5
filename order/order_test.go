package order

import (
	"slices"
	"testing"

	"trireme/api"
)

func TestHashes(t *testing.T) {
	a, b, c := api.Hash{0, 1}, api.Hash{1}, api.Hash{1, 31: 1}
	if got := Hashes(map[api.Hash]int{c: 1, a: 2, b: 3}); !slices.Equal(got, []api.Hash{a, b, c}) {
		t.Errorf("%x", got)
	}
	if got := Hashes(api.Bag{}); len(got) != 0 {
		t.Errorf("%x", got)
	}
}

func TestRise(t *testing.T) {
	for _, c := range []struct {
		texts []string
		want  bool
	}{
		{nil, true}, {[]string{"b"}, true}, {[]string{"", "a", "ab", "b", "b\xff"}, true},
		{[]string{"a", "a"}, false}, {[]string{"ab", "a"}, false}, {[]string{"a", "c", "b"}, false}, {[]string{"\xff", "a"}, false},
	} {
		var pairs []api.Pair
		for _, s := range c.texts {
			pairs = append(pairs, api.Pair{Key: []byte(s)})
		}
		if Keys(pairs) != c.want {
			t.Errorf("%q: not %t", c.texts, c.want)
		}
	}
}
