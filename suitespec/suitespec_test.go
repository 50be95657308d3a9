package suitespec_test

import (
	"fmt"
	"math/rand"
	"slices"
	"strings"
	"testing"

	"cipherplan/api"
	"cipherplan/suitespec"
)

func TestParse(t *testing.T) {
	for spec, want := range map[string][]int{
		"":                                {},
		"aesgcm+ecdhe:!v4":                {10, 11},
		"rsa+v1:@strength":                {6, 7, 8, 3, 5, 1, 2},
		"all":                             {1, 2, 3, 4, 5, 6, 7, 8, 9, 10, 11, 12, 13, 14, 15, 16},
		"high":                            {6, 7, 8, 9, 10, 11, 12, 13, 14, 15, 16},
		"medium":                          {3, 4, 5},
		"low":                             {1, 2},
		"v1":                              {1, 2, 3, 4, 5, 6, 7, 8},
		"v2+rc4":                          {1, 2},
		"v3+rc4":                          {2},
		"v4":                              {14, 15, 16},
		"chacha":                          {12, 15},
		"chacha+v4":                       {15},
		"md5":                             {},
		"dsa:rc4":                         {4, 1, 2},
		"v4:-chacha:all+v4":               {14, 16, 15},
		"v4:!chacha:all+v4:chacha":        {14, 16},
		"rc4:v4:+rc4":                     {14, 15, 16, 1, 2},
		"+rc4":                            {},
		"rc4:des3:+des3+dhe:-rsa-rc4-md5": {2, 3, 4, 5},
		"@strength:rc4":                   {1, 2},
		"rsa-aes256-gcm:rsa-aes256-gcm":   {13},
		"aead+hmacsha1":                   {},
	} {
		l, n, e := suitespec.Parse(spec)
		if !slices.Equal(l, want) || n != 0 || e != api.OK {
			t.Errorf("%q: %v, %d, %v", spec, l, n, e)
		}
	}
}

func TestParseErrors(t *testing.T) {
	for spec, want := range map[string]int{
		":": 1, "all:": 2, ":all": 1, "all::all": 2, "rc5": 1, "All": 1, "all:x:y": 2, "v5": 1, "v0": 1, "-": 1, "!": 1, "+": 1,
		"--all": 1, "+-all": 1, "all+": 1, "+all+": 1, "all++v4": 1, "-@strength": 1, "@strength+all": 1, "@": 1, "@strengt": 1, "rsa-2048": 1, "all v4": 1,
	} {
		if l, n, e := suitespec.Parse(spec); l != nil || n != want || e != api.ErrWord {
			t.Errorf("%q: %v, %d, %v", spec, l, n, e)
		}
	}
	for spec, want := range map[string]api.Errno{
		strings.Repeat("all:", 199) + "all":  api.OK,
		strings.Repeat("all:", 200) + "all":  api.ErrLimit,
		strings.Repeat("?:", 200):            api.ErrLimit,
		strings.Repeat("a", 8193):            api.ErrLimit,
		strings.Repeat("a", 8192):            api.ErrWord,
		"all" + strings.Repeat("+all", 2000): api.OK,
	} {
		if _, n, e := suitespec.Parse(spec); e != want || e == api.ErrLimit && n != 0 {
			t.Errorf("%.20q: %d, %v", spec, n, e)
		}
	}
}

func TestSet(t *testing.T) {
	for names, want := range map[string][]int{"ecdsa": {9, 11}, "chacha+ecdhe": {12, 15}, "sha256": {}, "mlkem": {16}, "rsakx+high": {6, 13}} {
		if l, ok := suitespec.Set(names); !slices.Equal(l, want) || !ok {
			t.Errorf("%q: %v, %v", names, l, ok)
		}
	}
	for _, names := range []string{"", "+", "-all", "all+", "x", "all+x", "@strength", "all:all"} {
		if l, ok := suitespec.Set(names); l != nil || ok {
			t.Errorf("%q: %v, %v", names, l, ok)
		}
	}
}

func TestPrint(t *testing.T) {
	r := rand.New(rand.NewSource(4))
	for range 500 {
		l := r.Perm(16)[:r.Intn(17)]
		for i := range l {
			l[i]++
		}
		s, e := suitespec.Print(l)
		m, _, f := suitespec.Parse(s)
		if e != api.OK || f != api.OK || !slices.Equal(l, m) {
			t.Fatalf("%v: %q, %v", l, s, m)
		}
	}
	if s, e := suitespec.Print([]int{15, 12, 1}); s != "chacha+v4:ecdhe-rsa-chacha:rsa-rc4-md5" || e != api.OK {
		t.Errorf("%q, %v", s, e)
	}
	for _, x := range []struct {
		l []int
		e api.Errno
	}{{[]int{0}, api.ErrSuite}, {[]int{17}, api.ErrSuite}, {[]int{1, 1}, api.ErrTwice}, {[]int{1, 1, 17}, api.ErrSuite}} {
		if s, e := suitespec.Print(x.l); s != "" || e != x.e {
			t.Errorf("%v: %q, %v", x.l, s, e)
		}
	}
}

func TestStrength(t *testing.T) {
	for code, want := range map[int]int{0: 0, 17: 0, -1: 0, 1: 60, 4: 112, 8: 128, 9: 256, 12: 256, 14: 128} {
		if n := suitespec.Strength(code); n != want {
			t.Errorf("%d: %d", code, n)
		}
	}
	l := []int{1, 99, 14, 4, 12, 2, 9}
	m := suitespec.Sort(l)
	if fmt.Sprint(m) != "[12 9 14 4 1 2 99]" || fmt.Sprint(l) != "[1 99 14 4 12 2 9]" || !slices.Equal(suitespec.Sort(m), m) {
		t.Errorf("%v, %v", m, l)
	}
}
