package watch_test

import (
	"fmt"
	"slices"
	"testing"

	"cipherplan/api"
	"cipherplan/finding"
	"cipherplan/watch"
)

var rsa = api.Use{Alg: api.RSA, Bits: 2048}

func web() api.Endpoint {
	return api.Endpoint{Name: "web", Least: 2, Most: 3, Suites: []int{10, 2}, Identities: []api.Identity{{Key: rsa, KeyId: 1}}, Anchors: []int{9}, Hashes: []int{3}}
}

func at(host string, day int) api.Finding {
	return api.Finding{Source: 7, Host: host, Day: day, Confidence: 90, Subject: "tls"}
}

func f(host string, day, kind int, u api.Use, number int) api.Finding {
	x := at(host, day)
	x.Kind, x.Use, x.Number = kind, u, number
	return x
}

func TestContradicts(t *testing.T) {
	none := api.Use{}
	for _, x := range []struct {
		kind   int
		u      api.Use
		number int
		want   bool
	}{
		{api.FindSuite, none, 2, false}, {api.FindSuite, none, 3, true}, {api.FindSuite, none, 999, true}, {api.FindKey, rsa, 1, false}, {api.FindKey, rsa, 2, true}, {api.FindKey, api.Use{Alg: api.RSA, Bits: 1024}, 1, true},
		{api.FindMost, none, 3, false}, {api.FindMost, none, 2, true}, {api.FindLeast, none, 2, false}, {api.FindLeast, none, 3, true}, {api.FindTrust, none, 9, false}, {api.FindTrust, none, 8, true},
		{api.FindUse, api.Use{Alg: api.MD5}, 0, false}, {api.FindOff, api.Use{Alg: api.SHA256}, 0, false}, {api.FindPeer, none, 0, false}, {0, none, 99, false},
	} {
		if watch.Contradicts(web(), f("web", 3, x.kind, x.u, x.number)) != x.want || watch.Contradicts(web(), f("db", 3, x.kind, x.u, x.number)) {
			t.Errorf("%v", x)
		}
	}
}

func TestAll(t *testing.T) {
	db := web()
	db.Name, db.Most = "db", 4
	e := api.Estate{Endpoints: []api.Endpoint{db, web()}}
	l := []api.Finding{f("web", 3, api.FindMost, api.Use{}, 4), f("db", 3, api.FindMost, api.Use{}, 4), f("web", 4, api.FindMost, api.Use{}, 4), f("db", 3, api.FindSuite, api.Use{}, 1), f("x", 3, api.FindMost, api.Use{}, 1)}
	if to, err := watch.All(e, l, 3); fmt.Sprint(to) != "[0 3]" || err != api.OK {
		t.Error(to, err)
	}
	if to, err := watch.All(e, []api.Finding{f("db", 0, api.FindMost, api.Use{}, 1)}, 0); fmt.Sprint(to) != "[0]" || err != api.OK {
		t.Error(to, err)
	}
	for _, day := range []int{-1, 40001} {
		if to, err := watch.All(e, l, day); to != nil || err != api.ErrRange {
			t.Error(to, err)
		}
	}
	e.Endpoints[0].Least = 0
	if to, err := watch.All(e, l, -1); to != nil || err != api.ErrEstate {
		t.Error(to, err)
	}
}

func TestExpectedMissingAgrees(t *testing.T) {
	l, err := watch.Expected(web(), at("web", 3))
	want, _ := finding.FromEndpoint(at("web", 3), web())
	if !slices.Equal(l, want) || len(l) != 7 || err != api.OK {
		t.Error(l, err)
	}
	change := func(c func(x *api.Finding)) []api.Finding {
		m := slices.Clone(l)
		c(&m[2])
		return m
	}
	for name, x := range map[string]struct {
		l       []api.Finding
		missing int
		agrees  bool
	}{
		"all":             {l, 0, true},
		"none":            {nil, 7, false},
		"one less":        {l[1:], 1, false},
		"one more":        {append(slices.Clone(l), f("web", 3, api.FindSuite, api.Use{}, 5)), 0, false},
		"on another day":  {append(slices.Clone(l), f("web", 4, api.FindSuite, api.Use{}, 5)), 0, true},
		"of another host": {append(slices.Clone(l), f("db", 3, api.FindSuite, api.Use{}, 5)), 0, true},
		"confidence":      {change(func(x *api.Finding) { x.Confidence, x.Source, x.Machine, x.Subject = 5, 1, 7, "ssh" }), 0, true},
		"day":             {change(func(x *api.Finding) { x.Day++ }), 1, false},
		"host":            {change(func(x *api.Finding) { x.Host = "db" }), 1, false},
		"text":            {change(func(x *api.Finding) { x.Text = "a" }), 1, false},
		"use":             {change(func(x *api.Finding) { x.Use.Alg = 4 }), 1, false},
	} {
		missing, err := watch.Missing(web(), at("web", 3), x.l)
		agrees, err2 := watch.Agrees(web(), at("web", 3), x.l)
		if len(missing) != x.missing || agrees != x.agrees || err != api.OK || err2 != api.OK {
			t.Errorf("%s: %v, %v", name, missing, agrees)
		}
	}
	if missing, _ := watch.Missing(web(), at("web", 3), l[:5]); !slices.Equal(missing, l[5:]) {
		t.Error(missing)
	}
	for _, x := range []struct {
		e    api.Endpoint
		at   api.Finding
		want api.Errno
	}{{api.Endpoint{}, api.Finding{}, api.ErrFinding}, {api.Endpoint{}, at("web", 3), api.ErrEndpoint}} {
		a, e1 := watch.Expected(x.e, x.at)
		b, e2 := watch.Missing(x.e, x.at, l)
		c, e3 := watch.Agrees(x.e, x.at, l)
		if a != nil || b != nil || c || e1 != x.want || e2 != x.want || e3 != x.want {
			t.Error(e1, e2, e3)
		}
	}
}

// What is expected of an endpoint agrees with it, and not with another one of this name.
func TestOtherEndpoints(t *testing.T) {
	l, _ := watch.Expected(web(), at("web", 3))
	for i, change := range []func(e *api.Endpoint){func(e *api.Endpoint) { e.Suites = []int{10} }, func(e *api.Endpoint) { e.Suites = []int{10, 2, 3} }, func(e *api.Endpoint) { e.Identities = nil }, func(e *api.Endpoint) { e.Identities[0].KeyId = 2 }, func(e *api.Endpoint) { e.Anchors = []int{8, 9} }, func(e *api.Endpoint) { e.Most = 4 }, func(e *api.Endpoint) { e.Least = 1 }} {
		e := web()
		change(&e)
		if ok, err := watch.Agrees(e, at("web", 3), l); ok || err != api.OK {
			t.Errorf("%d: %v, %v", i, ok, err)
		}
	}
}
