package negotiate_test

import (
	"fmt"
	"math/rand"
	"slices"
	"testing"

	"cipherplan/api"
	"cipherplan/certificate"
	"cipherplan/negotiate"
)

var rsa = api.Use{Alg: api.RSA, Bits: 2048}

// identity returns a key with a chain of one certificate that the anchor 9 has sealed.
func identity(u api.Use, key int) api.Identity {
	c, _ := certificate.Sign(api.Certificate{Issuer: "root", Subject: "web", Key: u, KeyId: key, Hash: api.Use{Alg: api.SHA256}, From: 10, To: 20, Names: []string{"web"}}, 9)
	return api.Identity{Key: u, KeyId: key, Chain: []api.Certificate{c}}
}

func client(suites ...int) api.Endpoint {
	return api.Endpoint{Name: "app", Least: 1, Most: 3, Suites: suites, Anchors: []int{9}, Hashes: []int{api.SHA256}}
}

func server(suites ...int) api.Endpoint {
	return api.Endpoint{Name: "web", Least: 1, Most: 3, Suites: suites, Identities: []api.Identity{identity(rsa, 1)}}
}

func TestChoose(t *testing.T) {
	for name, x := range map[string]struct {
		c, s   api.Endpoint
		change func(c, s *api.Endpoint)
		want   api.Outcome
		e      api.Errno
	}{
		"offer's order":  {client(10, 8), server(8, 10), nil, api.Outcome{Version: 3, Suite: 10}, api.OK},
		"own order":      {client(10, 8), server(8, 10), func(c, s *api.Endpoint) { s.OwnOrder = true }, api.Outcome{Version: 3, Suite: 8}, api.OK},
		"lesser version": {client(10, 8), server(8, 10), func(c, s *api.Endpoint) { s.Most = 2 }, api.Outcome{Version: 2, Suite: 8}, api.OK},
		"client's most":  {client(10, 8), server(8, 10), func(c, s *api.Endpoint) { s.Most, s.Least, c.Most = 4, 2, 2 }, api.Outcome{Version: 2, Suite: 8}, api.OK},
		"key for it":     {client(9, 11, 8), server(8, 9, 11), nil, api.Outcome{Version: 3, Suite: 8}, api.OK},
		"any key": {client(14), server(14), func(c, s *api.Endpoint) {
			c.Most, s.Most = 4, 4
			s.Identities = []api.Identity{identity(api.Use{Alg: api.ED25519}, 4)}
		}, api.Outcome{Version: 4, Suite: 14}, api.OK},
		"client invalid": {client(99), server(10), nil, api.Outcome{}, api.ErrEndpoint},
		"server invalid": {client(10), server(99), nil, api.Outcome{}, api.ErrEndpoint},
		"too old server": {client(10), server(10), func(c, s *api.Endpoint) { s.Most, c.Least = 2, 3 }, api.Outcome{}, api.ErrNoVersion},
		"too old client": {client(10), server(10), func(c, s *api.Endpoint) { c.Most, s.Least = 2, 3 }, api.Outcome{}, api.ErrNoVersion},
		"no suite":       {client(10), server(8), nil, api.Outcome{}, api.ErrNoSuite},
		"none":           {client(), server(8), nil, api.Outcome{}, api.ErrNoSuite},
		"not so late":    {client(1), server(1), nil, api.Outcome{}, api.ErrNoSuite},
		"no key":         {client(9), server(9), nil, api.Outcome{}, api.ErrNoSuite},
		"no identity":    {client(14), server(14), func(c, s *api.Endpoint) { c.Most, s.Most, s.Identities = 4, 4, nil }, api.Outcome{}, api.ErrNoSuite},
		"anchor":         {client(10), server(10), func(c, s *api.Endpoint) { c.Anchors = []int{8} }, api.Outcome{}, api.ErrTrust},
		"hash":           {client(10), server(10), func(c, s *api.Endpoint) { c.Hashes = []int{api.MD5} }, api.Outcome{}, api.ErrTrust},
		"name":           {client(10), server(10), func(c, s *api.Endpoint) { s.Name = "db" }, api.Outcome{}, api.ErrTrust},
		"no chain":       {client(10), server(10), func(c, s *api.Endpoint) { s.Identities[0].Chain = nil }, api.Outcome{}, api.ErrTrust},
	} {
		if x.change != nil {
			x.change(&x.c, &x.s)
		}
		if o, e := negotiate.Choose(x.c, x.s, 15); o != x.want || e != x.e {
			t.Errorf("%s: %v, %v", name, o, e)
		}
	}
	if _, e := negotiate.Choose(client(10), server(10), 20); e != api.ErrTrust {
		t.Error(e)
	}
}

func TestWith(t *testing.T) {
	c, s := client(10, 8), server(8, 10)
	for name, x := range map[string]struct {
		day, most int
		suites    []int
		want      api.Outcome
		e         api.Errno
	}{
		"less":         {15, 2, []int{10, 8}, api.Outcome{Version: 2, Suite: 8}, api.OK},
		"more":         {15, 4, []int{10, 8}, api.Outcome{Version: 3, Suite: 10}, api.OK},
		"other suites": {15, 3, []int{99, -1, 8, 8, 10}, api.Outcome{Version: 3, Suite: 8}, api.OK},
		"day":          {-1, 3, nil, api.Outcome{}, api.ErrRange},
		"late day":     {40001, 3, nil, api.Outcome{}, api.ErrRange},
		"most":         {15, 0, nil, api.Outcome{}, api.ErrRange},
		"5":            {15, 5, nil, api.Outcome{}, api.ErrRange},
		"nothing":      {15, 3, nil, api.Outcome{}, api.ErrNoSuite},
	} {
		if o, e := negotiate.With(c, s, x.day, x.most, x.suites); o != x.want || e != x.e {
			t.Errorf("%s: %v, %v", name, o, e)
		}
	}
	c.Least = 3
	if _, e := negotiate.With(c, s, 15, 2, c.Suites); e != api.ErrNoVersion {
		t.Error(e)
	}
	if _, e := negotiate.With(api.Endpoint{}, s, -1, 9, nil); e != api.ErrEndpoint {
		t.Error(e)
	}
}

func TestIdentityAndUses(t *testing.T) {
	s := server(10)
	s.Identities = []api.Identity{identity(api.Use{Alg: api.ECDSA, Bits: 256}, 2), identity(rsa, 1), identity(api.Use{Alg: api.RSA, Bits: 4096}, 3)}
	for suite, want := range map[int]int{10: 1, 1: 1, 9: 0, 14: 0, 4: -1, 0: -1, 17: -1} {
		if i, ok := negotiate.Identity(s, suite); i != want || ok != (want >= 0) {
			t.Errorf("%d: %d, %v", suite, i, ok)
		}
	}
	for suite, want := range map[int]string{10: "[{12 256} {5 2048} {17 128} {22 0}]", 1: "[{10 2048} {5 2048} {14 128} {19 0}]", 9: "[{12 256} {7 256} {16 256} {21 0}]", 16: "[{13 768} {7 256} {17 256} {22 0}]"} {
		if l, e := negotiate.Uses(s, api.Outcome{Version: 3, Suite: suite}); fmt.Sprint(l) != want || e != api.OK {
			t.Errorf("%d: %v, %v", suite, l, e)
		}
	}
	for suite, want := range map[int]api.Errno{4: api.ErrNone, 17: api.ErrSuite} {
		if l, e := negotiate.Uses(s, api.Outcome{Suite: suite}); l != nil || e != want {
			t.Errorf("%d: %v, %v", suite, l, e)
		}
	}
	if l, e := negotiate.Uses(api.Endpoint{}, api.Outcome{Suite: 17}); l != nil || e != api.ErrEndpoint {
		t.Error(l, e)
	}
}

func TestCommon(t *testing.T) {
	c, s := client(14, 10, 8, 1, 9), server(1, 8, 9, 10, 14)
	c.Least, c.Most, s.Most = 2, 4, 4
	if l := negotiate.Common(c, s); fmt.Sprint(l) != "[{2 1} {2 8} {3 8} {3 10} {4 14}]" {
		t.Error(l)
	}
	if negotiate.Common(api.Endpoint{}, s) != nil || negotiate.Common(c, api.Endpoint{}) != nil {
		t.Error("endpoints that are none")
	}
}

func random(r *rand.Rand) (api.Endpoint, api.Endpoint) {
	some := func() []int {
		l := r.Perm(16)[:r.Intn(8)]
		for i := range l {
			l[i]++
		}
		return l
	}
	c, s := client(some()...), server(some()...)
	c.Least, s.Least = 1+r.Intn(2), 1+r.Intn(2)
	c.Most, s.Most = c.Least+r.Intn(3), s.Least+r.Intn(3)
	s.OwnOrder = r.Intn(2) > 0
	if r.Intn(2) > 0 {
		s.Identities = append(s.Identities, identity(api.Use{Alg: api.ECDSA, Bits: 256}, 2))
	}
	return c, s
}

// What comes out is in Common, and is possible; with OwnOrder the order of the offer does not matter.
func TestConsequences(t *testing.T) {
	r := rand.New(rand.NewSource(13))
	for range 3000 {
		c, s := random(r)
		o, e := negotiate.Choose(c, s, 15)
		common := negotiate.Common(c, s)
		if e == api.OK && !slices.Contains(common, o) {
			t.Fatalf("%v, %v: %v is not in %v", c, s, o, common)
		}
		if e == api.ErrNoSuite && slices.ContainsFunc(common, func(x api.Outcome) bool { return x.Version == min(c.Most, s.Most) }) {
			t.Fatalf("%v, %v: %v", c, s, common)
		}
		if s.OwnOrder {
			d := c
			d.Suites = slices.Clone(c.Suites)
			r.Shuffle(len(d.Suites), func(i, j int) { d.Suites[i], d.Suites[j] = d.Suites[j], d.Suites[i] })
			if p, _ := negotiate.Choose(d, s, 15); p != o {
				t.Fatalf("%v, %v: %v, %v", c, s, o, p)
			}
		}
	}
}

func TestJustPermitted(t *testing.T) {
	c, s := client(8), server(8)
	s.Least = 3
	if o, e := negotiate.Choose(c, s, 15); o != (api.Outcome{Version: 3, Suite: 8}) || e != api.OK {
		t.Error(o, e)
	}
	s.Least, c.Least, c.Most = 1, 1, 1
	if o, e := negotiate.With(c, s, 15, 1, []int{8}); o != (api.Outcome{Version: 1, Suite: 8}) || e != api.OK {
		t.Error(o, e)
	}
	if _, e := negotiate.With(c, s, 0, 1, []int{8}); e != api.ErrTrust {
		t.Error(e)
	}
	bad := c
	bad.Hashes = []int{99}
	if negotiate.Common(bad, s) != nil || negotiate.Common(c, api.Endpoint{Name: "x", Least: 1, Most: 9, Suites: s.Suites, Identities: s.Identities}) != nil {
		t.Error("endpoints that are none")
	}
}
