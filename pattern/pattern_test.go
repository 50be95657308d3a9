package pattern_test

import (
	"bytes"
	"fmt"
	"math/rand"
	"slices"
	"strings"
	"testing"

	"cipherplan/api"
	"cipherplan/pattern"
)

func patterns(l ...string) []api.Pattern {
	var p []api.Pattern
	for i, s := range l {
		p = append(p, api.Pattern{Use: api.Use{Alg: 1 + i%4}, Bytes: []byte(s)})
	}
	return p
}

func TestCheck(t *testing.T) {
	for name, x := range map[string]struct {
		p  []api.Pattern
		ok bool
	}{
		"none":      {nil, true},
		"32":        {patterns(slices.Repeat([]string{"a"}, 32)...), true},
		"33":        {patterns(slices.Repeat([]string{"a"}, 33)...), false},
		"no bytes":  {patterns("a", ""), false},
		"64 bytes":  {patterns(strings.Repeat("a", 64)), true},
		"65 bytes":  {patterns(strings.Repeat("a", 65)), false},
		"no use":    {[]api.Pattern{{Bytes: []byte("a")}}, false},
		"wrong use": {[]api.Pattern{{Use: api.Use{Alg: api.RSA, Bits: 5}, Bytes: []byte("a")}}, false},
	} {
		if e := pattern.Check(x.p); (e == api.OK) != x.ok || !x.ok && e != api.ErrPattern {
			t.Errorf("%s: %v", name, e)
		}
		hits, e := pattern.Find(x.p, make([]byte, 5000))
		first, f := pattern.First(x.p, make([]byte, 5000))
		if uses, g := pattern.Uses(x.p, api.Image{Sections: []api.Section{{}}}); !x.ok && (e != api.ErrPattern || f != api.ErrPattern || g != api.ErrPattern) || x.ok && (e != api.ErrLimit || f != api.ErrLimit || g != api.ErrImage) || hits != nil || first != nil || uses != nil {
			t.Errorf("%s: %v, %v, %v", name, e, f, g)
		}
	}
}

func TestFind(t *testing.T) {
	p := patterns("she", "he", "hers", "his", "he", "s")
	hits, e := pattern.Find(p, []byte("ushers"))
	if want := "[{0 1} {5 1} {1 2} {2 2} {4 2} {5 5}]"; fmt.Sprint(hits) != want || e != api.OK {
		t.Errorf("%v, %v", hits, e)
	}
	l, e := pattern.First(p, []byte("ushers"))
	if fmt.Sprint(l) != "[1 2 2 -1 2 1]" || e != api.OK {
		t.Errorf("%v, %v", l, e)
	}
	p = patterns("a")
	if hits, e := pattern.Find(p, bytes.Repeat([]byte("a"), 1000)); len(hits) != 1000 || e != api.OK {
		t.Error(len(hits), e)
	}
	if hits, e := pattern.Find(p, bytes.Repeat([]byte("a"), 1001)); hits != nil || e != api.ErrLimit {
		t.Error(len(hits), e)
	}
	if l, e := pattern.First(p, bytes.Repeat([]byte("a"), 4096)); fmt.Sprint(l) != "[0]" || e != api.OK {
		t.Error(l, e)
	}
}

// All hits, as a plain comparison at each place finds them.
func TestFindAll(t *testing.T) {
	r := rand.New(rand.NewSource(5))
	some := func(n int) []byte {
		b := make([]byte, n)
		for i := range b {
			b[i] = byte('a' + r.Intn(2))
		}
		return b
	}
	for range 2000 {
		var p []api.Pattern
		for range r.Intn(6) {
			p = append(p, api.Pattern{Use: api.Use{Alg: 1}, Bytes: some(1 + r.Intn(6))})
		}
		b := some(r.Intn(40))
		var want []api.Hit
		first := slices.Repeat([]int{-1}, len(p))
		for at := range b {
			for i, x := range p {
				if bytes.HasPrefix(b[at:], x.Bytes) {
					want = append(want, api.Hit{Pattern: i, At: at})
					if first[i] < 0 {
						first[i] = at
					}
				}
			}
		}
		hits, e := pattern.Find(p, b)
		l, f := pattern.First(p, b)
		if e != api.OK || f != api.OK || !slices.Equal(hits, want) || !slices.Equal(l, first) {
			t.Fatalf("%v in %q: %v, %v", p, b, hits, l)
		}
	}
}

func TestUses(t *testing.T) {
	p := patterns("xy", "b", "cd", "a", "b")
	p[1].Use, p[4].Use = api.Use{Alg: api.RSA, Bits: 2048}, api.Use{Alg: api.RSA, Bits: 1024}
	p = append(p, p[1])
	i := api.Image{Sections: []api.Section{{Name: "1", Bytes: []byte("bbx")}, {Name: "2", Bytes: []byte("yacd")}}}
	l, e := pattern.Uses(p, i)
	if fmt.Sprint(l) != "[{3 0} {4 0} {5 1024} {5 2048}]" || e != api.OK {
		t.Errorf("%v, %v", l, e)
	}
}

func TestPrefix(t *testing.T) {
	for s, want := range map[string]string{"": "[]", "a": "[0]", "abab": "[0 0 1 2]", "aaa": "[0 1 2]", "aabaaab": "[0 1 0 1 2 2 3]"} {
		if got := fmt.Sprint(pattern.Prefix([]byte(s))); got != want {
			t.Errorf("%q: %s", s, got)
		}
	}
}

func TestMostBytes(t *testing.T) {
	if hits, e := pattern.Find(patterns("b"), make([]byte, 4096)); len(hits) != 0 || e != api.OK {
		t.Error(hits, e)
	}
}

func TestPrefixOfAny(t *testing.T) {
	r := rand.New(rand.NewSource(37))
	for range 2000 {
		b := make([]byte, r.Intn(14))
		for i := range b {
			b[i] = byte('a' + r.Intn(2))
		}
		for i, got := range pattern.Prefix(b) {
			want := i
			for !bytes.HasSuffix(b[:i+1], b[:want]) {
				want--
			}
			if got != want {
				t.Fatalf("%q: %d at %d, want %d", b, got, i, want)
			}
		}
	}
}
