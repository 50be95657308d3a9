package verdict_test

import (
	"fmt"
	"math/rand"
	"slices"
	"testing"

	"cipherplan/api"
	"cipherplan/rule"
	"cipherplan/verdict"
)

var (
	md5 = api.Use{Alg: api.MD5}
	rsa = api.Use{Alg: api.RSA, Bits: 2048}
)

func policy(t *testing.T, text string) api.Policy {
	p, n, e := rule.Parse(text)
	if e != api.OK {
		t.Fatalf("%q: %d, %v", text, n, e)
	}
	return p
}

func TestAllowed(t *testing.T) {
	p := policy(t, "forbid md5\nallow md5 until 9\nforbid rsa below 2048 for sign from 5 until 8\nforbid any below 1024")
	for _, x := range []struct {
		u            api.Use
		purpose, day int
		ok           bool
		index        int
	}{
		{md5, 1, 0, true, 1}, {md5, 1, 8, true, 1}, {md5, 4, 9, false, 0}, {md5, 1, 40000, false, 0},
		{rsa, 2, 5, true, -1}, {api.Use{Alg: api.RSA, Bits: 2047}, 2, 5, false, 2}, {api.Use{Alg: api.RSA, Bits: 2047}, 2, 4, true, -1},
		{api.Use{Alg: api.RSA, Bits: 2047}, 2, 8, true, -1}, {api.Use{Alg: api.RSA, Bits: 2047}, 1, 5, true, -1},
		{api.Use{Alg: api.RSA, Bits: 1023}, 2, 5, false, 3}, {api.Use{Alg: api.SHA1}, 2, 5, true, -1}, {api.Use{Alg: api.DSA, Bits: 2047}, 2, 5, true, -1},
	} {
		if ok, i, e := verdict.Allowed(p, x.u, x.purpose, x.day); ok != x.ok || i != x.index || e != api.OK {
			t.Errorf("%v: %v, %d, %v", x, ok, i, e)
		}
	}
}

func TestErrors(t *testing.T) {
	bad := api.Policy{Rules: []api.Rule{{}}}
	for name, x := range map[string]struct {
		p             api.Policy
		u             api.Use
		purpose, day  int
		allowed, span api.Errno
	}{
		"rule":     {bad, api.Use{}, 0, -1, api.ErrRule, api.ErrRule},
		"use":      {api.Policy{}, api.Use{}, 0, -1, api.ErrUse, api.ErrUse},
		"purpose":  {api.Policy{}, md5, 0, 0, api.ErrRange, api.ErrRange},
		"5":        {api.Policy{}, md5, 5, 0, api.ErrRange, api.ErrRange},
		"day":      {api.Policy{}, md5, 1, -1, api.ErrRange, api.OK},
		"late day": {api.Policy{}, md5, 4, 40001, api.ErrRange, api.OK},
	} {
		ok, i, e := verdict.Allowed(x.p, x.u, x.purpose, x.day)
		spans, f := verdict.Spans(x.p, x.u, x.purpose)
		day, falls, g := verdict.Falls(x.p, x.u, x.purpose)
		if ok || i != 0 || e != x.allowed || f != x.span || g != x.span || f != api.OK && spans != nil || day != 0 || falls {
			t.Errorf("%s: %v, %v, %v", name, e, f, g)
		}
	}
	if l, e := verdict.Dead(bad); l != nil || e != api.ErrRule {
		t.Error(l, e)
	}
}

func TestSpansAndFalls(t *testing.T) {
	for text, x := range map[string]struct {
		spans string
		day   int
		falls bool
	}{
		"":                              {"[{0 40001}]", 0, false},
		"forbid md5":                    {"[]", 0, true},
		"forbid md5\nallow md5 until 9": {"[{0 9}]", 9, true},
		"forbid md5 from 3 until 5\nforbid any from 5 until 7\nforbid any from 40000": {"[{0 3} {7 40000}]", 40000, true},
		"forbid md5 until 5\nallow any from 3":                                        {"[{3 40001}]", 0, false},
		"forbid rsa\nforbid any below 9":                                              {"[{0 40001}]", 0, false},
		"forbid md5 until 40000":                                                      {"[{40000 40001}]", 0, false},
		"allow md5 until 5\nallow md5 from 5":                                         {"[{0 40001}]", 0, false},
	} {
		p := policy(t, text)
		spans, e := verdict.Spans(p, md5, 1)
		day, falls, f := verdict.Falls(p, md5, 1)
		if fmt.Sprint(spans) != x.spans || day != x.day || falls != x.falls || e != api.OK || f != api.OK {
			t.Errorf("%q: %v, %d, %v", text, spans, day, falls)
		}
	}
}

func random(r *rand.Rand) api.Policy {
	var p api.Policy
	for range r.Intn(6) {
		from := r.Intn(6)
		p.Rules = append(p.Rules, api.Rule{Allow: r.Intn(2) > 0, Alg: r.Intn(3) * api.RSA / 2, Below: r.Intn(3) * 1000, Purpose: r.Intn(3), From: from, To: from + 1 + r.Intn(4)})
	}
	return p
}

// Spans, Falls and Dead say what Allowed says on each day.
func TestDayByDay(t *testing.T) {
	r := rand.New(rand.NewSource(11))
	for range 300 {
		p := random(r)
		used := map[int]bool{}
		for _, u := range []api.Use{{Alg: api.RSA, Bits: 512}, {Alg: api.RSA, Bits: 1000}, {Alg: api.RSA, Bits: 2000}, {Alg: api.SHA1}, {Alg: api.RC4, Bits: 40}} {
			for purpose := 1; purpose <= 4; purpose++ {
				spans, _ := verdict.Spans(p, u, purpose)
				for i := 1; i < len(spans); i++ {
					if spans[i-1].To >= spans[i].From {
						t.Fatalf("%v", spans)
					}
				}
				for day := range 12 {
					ok, i, _ := verdict.Allowed(p, u, purpose, day)
					used[i] = true
					if in := slices.ContainsFunc(spans, func(s api.Span) bool { return s.From <= day && day < s.To }); in != ok {
						t.Fatalf("%v: %v on %d: %v", p, u, day, ok)
					}
				}
			}
		}
		dead, _ := verdict.Dead(p)
		for i := range p.Rules {
			if p.Rules[i].Alg != api.SHA1+1 && used[i] == slices.Contains(dead, i) && (used[i] || p.Rules[i].Alg == api.RSA || p.Rules[i].Alg == 0) {
				t.Fatalf("%v: dead %v, used %v", p, dead, used)
			}
		}
	}
}

func TestKeep(t *testing.T) {
	p := api.Policy{Keeps: []api.Keep{{Purpose: 1, Days: 5}, {Purpose: 2, Days: 6}, {Purpose: 1, Days: 7}}}
	if verdict.Keep(p, 1) != 7 || verdict.Keep(p, 2) != 6 || verdict.Keep(p, 3) != 0 || verdict.Keep(p, -1) != 0 {
		t.Error("keep")
	}
}

func TestDead(t *testing.T) {
	for text, want := range map[string]string{
		"":                              "[]",
		"forbid md5\nallow md5":         "[0]",
		"forbid md5\nallow md5 until 9": "[]",
		"forbid md5 below 5":            "[0]",
		"forbid rsa below 512\nforbid rsa below 513":                     "[0]",
		"forbid any below 40\nforbid any below 41":                       "[0]",
		"forbid mldsa below 45\nallow mldsa below 65":                    "[0]",
		"forbid mldsa below 66\nallow mldsa below 65":                    "[]",
		"forbid rsa for sign\nforbid any for sign\nallow any":            "[0 1]",
		"forbid rsa from 5 until 9\nallow rsa until 7\nallow rsa from 7": "[0]",
		"forbid rsa from 5 until 9\nallow rsa until 7\nallow rsa from 8": "[]",
		"forbid rsa below 16384\nallow rsa below 16383":                  "[]",
	} {
		if l, e := verdict.Dead(policy(t, text)); fmt.Sprint(l) != want || e != api.OK {
			t.Errorf("%q: %v, %v", text, l, e)
		}
	}
	for _, text := range []string{"forbid aead", "forbid any for code", "forbid rsa below 513", "forbid any until 1", "forbid rsa\nallow rsa below 16384"} {
		if l, e := verdict.Dead(policy(t, text)); len(l) != 0 || e != api.OK {
			t.Errorf("%q: %v, %v", text, l, e)
		}
	}
	long := api.Policy{}
	for i := range 60 {
		long.Rules = append(long.Rules, api.Rule{Below: 600 + 100*i, From: i, To: 30000 - i})
	}
	if l, e := verdict.Dead(long); len(l) != 0 || e != api.OK {
		t.Error(l, e)
	}
}
