package downgrade_test

import (
	"fmt"
	"math/rand"
	"slices"
	"testing"

	"cipherplan/api"
	"cipherplan/certificate"
	"cipherplan/downgrade"
	"cipherplan/exception"
	"cipherplan/negotiate"
	"cipherplan/rule"
)

var rsa = api.Use{Alg: api.RSA, Bits: 2048}

func client(suites ...int) api.Endpoint {
	return api.Endpoint{Name: "app", Least: 1, Most: 3, Suites: suites, Anchors: []int{9}, Hashes: []int{api.SHA256}}
}

func server(suites ...int) api.Endpoint {
	c, _ := certificate.Sign(api.Certificate{Issuer: "root", Subject: "web", Key: rsa, KeyId: 1, Hash: api.Use{Alg: api.SHA256}, From: 10, To: 20, Names: []string{"web"}}, 9)
	return api.Endpoint{Name: "web", Least: 1, Most: 3, Suites: suites, Identities: []api.Identity{{Key: rsa, KeyId: 1, Chain: []api.Certificate{c}}}}
}

func TestAll(t *testing.T) {
	for name, x := range map[string]struct {
		c, s     api.Endpoint
		fallback bool
		weak     int
		want     string
	}{
		"example":       {client(10, 2), server(10, 2), true, 0, "[{{1 2} 1 [10 2]} {{2 2} 2 [10 2]} {{3 10} 3 [10 2]}]"},
		"weak":          {client(10, 2), server(10, 2), true, 100, "[{{1 2} 1 [10 2]} {{2 2} 2 [10 2]} {{3 2} 3 [2]} {{3 10} 3 [10 2]}]"},
		"no fallback":   {client(10, 2), server(10, 2), false, 0, "[{{3 10} 3 [10 2]}]"},
		"weak alone":    {client(10, 2), server(10, 2), false, 81, "[{{1 2} 1 [2]} {{2 2} 2 [2]} {{3 2} 3 [2]} {{3 10} 3 [10 2]}]"},
		"not so weak":   {client(10, 2), server(10, 2), false, 80, "[{{3 10} 3 [10 2]}]"},
		"all are weak":  {client(10, 2), server(10, 2), false, 512, "[{{1 2} 1 [2]} {{2 2} 2 [2]} {{3 2} 3 [2]} {{3 10} 3 [10 2]}]"},
		"old server":    {client(10, 2), old(server(10, 2)), true, 100, "[{{1 2} 1 [10 2]} {{2 2} 3 [10 2]}]"},
		"altered first": {client(2, 1), old(server(10, 2, 1)), false, 100, "[{{1 1} 1 [1]} {{1 2} 1 [2]} {{2 1} 3 [1]} {{2 2} 3 [2 1]}]"},
		"nothing":       {client(10), server(2), true, 100, "[]"},
	} {
		x.c.Fallback = x.fallback
		l, e := downgrade.All(x.c, x.s, 15, x.weak)
		if fmt.Sprint(l) != x.want || e != api.OK {
			t.Errorf("%s: %v, %v", name, l, e)
		}
		for version := 1; version <= 4; version++ {
			for suite := range 17 {
				o := api.Outcome{Version: version, Suite: suite}
				want := slices.ContainsFunc(l, func(w api.Way) bool { return w.Outcome == o })
				if ok, e := downgrade.Reaches(x.c, x.s, 15, x.weak, o); ok != want || e != api.OK {
					t.Errorf("%s: %v: %v, %v", name, o, ok, e)
				}
			}
		}
	}
}

func old(e api.Endpoint) api.Endpoint {
	e.Most = 2
	return e
}

func TestErrors(t *testing.T) {
	for name, x := range map[string]struct {
		c, s      api.Endpoint
		day, weak int
		e         api.Errno
	}{
		"client":     {api.Endpoint{}, server(10), -1, -1, api.ErrEndpoint},
		"server":     {client(10), api.Endpoint{}, -1, -1, api.ErrEndpoint},
		"day":        {client(10), server(10), -1, 0, api.ErrRange},
		"late day":   {client(10), server(10), 40001, 0, api.ErrRange},
		"weak":       {client(10), server(10), 0, -1, api.ErrRange},
		"great weak": {client(10), server(10), 0, 513, api.ErrRange},
	} {
		l, e := downgrade.All(x.c, x.s, x.day, x.weak)
		m, f := downgrade.Down(x.c, x.s, api.Policy{Rules: []api.Rule{{}}}, nil, api.Owners{}, x.day, x.weak)
		ok, g := downgrade.Reaches(x.c, x.s, x.day, x.weak, api.Outcome{})
		if l != nil || m != nil || ok || e != x.e || f != x.e || g != x.e {
			t.Errorf("%s: %v, %v, %v", name, e, f, g)
		}
	}
	bad := api.Policy{Rules: []api.Rule{{}}}
	for _, x := range []struct {
		p   api.Policy
		l   []api.Exception
		s   api.Endpoint
		out api.Outcome
		day int
		e   api.Errno
	}{
		{bad, nil, api.Endpoint{}, api.Outcome{}, 15, api.ErrEndpoint}, {bad, nil, server(10), api.Outcome{}, 15, api.ErrSuite}, {bad, nil, server(10), api.Outcome{Suite: 9}, 15, api.ErrNone},
		{bad, []api.Exception{{}}, server(10), api.Outcome{Suite: 10}, 15, api.ErrRule}, {api.Policy{}, []api.Exception{{}}, server(10), api.Outcome{Suite: 10}, -1, api.ErrRange}, {api.Policy{}, []api.Exception{{}}, server(10), api.Outcome{Suite: 10}, 1, api.ErrException},
	} {
		if ok, e := downgrade.Forbidden(x.p, x.l, api.Owners{}, x.s, x.out, x.day); ok || e != x.e {
			t.Errorf("%v: %v, %v", x, ok, e)
		}
	}
	if l, e := downgrade.Down(client(10), server(10), bad, nil, api.Owners{}, 15, 0); l != nil || e != api.ErrRule {
		t.Error(l, e)
	}
	if l, e := downgrade.Down(client(10), server(2), bad, nil, api.Owners{}, 15, 0); len(l) != 0 || e != api.OK {
		t.Error(l, e)
	}
}

func TestForbiddenAndDown(t *testing.T) {
	c, s := client(10, 2), server(10, 2)
	c.Fallback = true
	o := api.Owners{Keys: []int{1}, Need: 1}
	x, _ := exception.Sign(api.Exception{Use: api.Use{Alg: api.RC4, Bits: 128}, Purpose: 1, Endpoint: "web", Days: api.Span{From: 16, To: 18}}, 1)
	for text, want := range map[string][2]string{
		"forbid rc4":              {"[{{1 2} 1 [10 2]} {{2 2} 2 [10 2]}]", "[]"},
		"forbid rc4 for sign":     {"[]", "[]"},
		"forbid rc4 until 15":     {"[]", "[]"},
		"forbid rsa below 2049":   {"[{{1 2} 1 [10 2]} {{2 2} 2 [10 2]} {{3 10} 3 [10 2]}]", "[{{1 2} 1 [10 2]} {{2 2} 2 [10 2]} {{3 10} 3 [10 2]}]"},
		"forbid rsakx below 2049": {"[{{1 2} 1 [10 2]} {{2 2} 2 [10 2]}]", "[{{1 2} 1 [10 2]} {{2 2} 2 [10 2]}]"},
		"forbid aead":             {"[{{3 10} 3 [10 2]}]", "[{{3 10} 3 [10 2]}]"},
		"forbid ecdhe":            {"[{{3 10} 3 [10 2]}]", "[{{3 10} 3 [10 2]}]"},
	} {
		p, _, _ := rule.Parse(text)
		l, e := downgrade.Down(c, s, p, nil, o, 15, 0)
		m, f := downgrade.Down(c, s, p, []api.Exception{x}, o, 16, 0)
		if fmt.Sprint(l) != want[0] || fmt.Sprint(m) != want[1] || e != api.OK || f != api.OK {
			t.Errorf("%s: %v, %v, %v, %v", text, l, m, e, f)
		}
		for _, out := range negotiate.Common(c, s) {
			down := slices.ContainsFunc(l, func(w api.Way) bool { return w.Outcome == out })
			if ok, e := downgrade.Forbidden(p, nil, o, s, out, 15); e != api.OK || ok != down && out != (api.Outcome{Version: 3, Suite: 2}) {
				t.Errorf("%s: %v: %v, %v", text, out, ok, e)
			}
		}
	}
}

// What is chosen comes about, and all that comes about is common.
func TestConsequences(t *testing.T) {
	r := rand.New(rand.NewSource(14))
	for range 500 {
		some := func() []int {
			l := r.Perm(13)[:1+r.Intn(6)]
			for i := range l {
				l[i]++
			}
			return l
		}
		c, s := client(some()...), server(some()...)
		c.Fallback, s.OwnOrder, s.Most = r.Intn(2) > 0, r.Intn(2) > 0, 2+r.Intn(2)
		weak := r.Intn(300)
		chosen, e := negotiate.Choose(c, s, 15)
		if ok, _ := downgrade.Reaches(c, s, 15, weak, chosen); ok != (e == api.OK) {
			t.Fatalf("%v, %v: %v", c, s, chosen)
		}
		ways, _ := downgrade.All(c, s, 15, weak)
		for _, w := range ways {
			if !slices.Contains(negotiate.Common(c, s), w.Outcome) {
				t.Fatalf("%v, %v: %v", c, s, w)
			}
			if o, e := negotiate.With(c, s, 15, w.Most, w.Suites); o != w.Outcome || e != api.OK {
				t.Fatalf("%v: %v, %v", w, o, e)
			}
		}
		c.Fallback = false
		if ways, _ := downgrade.All(c, s, 15, 0); len(ways) > 1 {
			t.Fatalf("%v", ways)
		}
	}
}

func TestFirstDay(t *testing.T) {
	if l, e := downgrade.All(client(10), server(10), 0, 0); len(l) != 0 || e != api.OK {
		t.Error(l, e)
	}
}
