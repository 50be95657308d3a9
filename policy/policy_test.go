package policy_test

import (
	"fmt"
	"math/rand"
	"slices"
	"testing"

	"cipherplan/api"
	"cipherplan/downgrade"
	"cipherplan/exception"
	"cipherplan/policy"
	"cipherplan/rule"
)

var rsa = api.Identity{Key: api.Use{Alg: api.RSA, Bits: 2048}, KeyId: 1}

// estate: app and db are clients of web.
func estate(app, db, web []int) api.Estate {
	end := func(name string, suites []int) api.Endpoint {
		return api.Endpoint{Name: name, Least: 1, Most: 3, Suites: suites}
	}
	e := api.Estate{Endpoints: []api.Endpoint{end("app", app), end("db", db), end("web", web)}, Edges: []api.Edge{{Client: 0, Server: 2}, {Client: 1, Server: 2}}}
	e.Endpoints[2].Identities = []api.Identity{rsa}
	return e
}

func rules(text string) api.Policy {
	p, n, e := rule.Parse(text)
	if e != api.OK {
		panic(fmt.Sprint(n, e))
	}
	return p
}

func TestOpen(t *testing.T) {
	o := api.Owners{Keys: []int{1}, Need: 1}
	x, _ := exception.Sign(api.Exception{Use: api.Use{Alg: api.RC4, Bits: 128}, Purpose: 1, Endpoint: "web", Days: api.Span{From: 16, To: 18}}, 1)
	e := estate([]int{10, 2}, []int{10}, []int{2, 10})
	for _, y := range []struct {
		text      string
		edge, day int
		want      string
	}{{"forbid rc4", 0, 15, "[{1 2} {2 2} {3 2}]"}, {"forbid rc4", 1, 15, "[]"}, {"forbid rc4", 0, 16, "[]"}, {"forbid any", 1, 15, "[{3 10}]"}, {"forbid rc4 from 16", 0, 15, "[]"}, {"forbid rc4 for sign", 0, 15, "[]"}} {
		if l, err := policy.Open(e, rules(y.text), []api.Exception{x}, o, y.edge, y.day); fmt.Sprint(l) != y.want || err != api.OK {
			t.Errorf("%v: %v, %v", y, l, err)
		}
	}
}

func TestErrors(t *testing.T) {
	good := estate([]int{10}, []int{10}, []int{10})
	bad := estate([]int{99}, nil, nil)
	other := estate([]int{10}, []int{10}, []int{10})
	other.Edges = other.Edges[:1]
	wrong := api.Policy{Rules: []api.Rule{{}}}
	for name, x := range map[string]struct {
		before, after api.Estate
		p             api.Policy
		l             []api.Exception
		day           int
		step, open    api.Errno
	}{
		"before":    {bad, good, wrong, []api.Exception{{}}, -1, api.ErrEstate, api.ErrRule},
		"after":     {good, bad, wrong, []api.Exception{{}}, -1, api.ErrEstate, api.ErrEstate},
		"edges":     {good, other, wrong, []api.Exception{{}}, -1, api.ErrEdge, api.ErrRule},
		"rule":      {good, good, wrong, []api.Exception{{}}, -1, api.ErrRule, api.ErrRule},
		"exception": {good, good, api.Policy{}, []api.Exception{{}}, -1, api.ErrException, api.ErrException},
		"day":       {good, good, api.Policy{}, nil, -1, api.ErrRange, api.ErrRange},
		"late day":  {good, good, api.Policy{}, nil, 40001, api.ErrRange, api.ErrRange},
	} {
		l, a := policy.Step(x.before, x.after, x.p, x.l, api.Owners{}, x.day)
		n, m, b := policy.Progress(x.before, x.after, x.p, x.l, api.Owners{}, x.day)
		k, c := policy.Clean(x.after, x.p, x.l, api.Owners{}, x.day)
		o, d := policy.Open(x.after, x.p, x.l, api.Owners{}, 9, x.day)
		if l != nil || n != 0 || m != 0 || k != nil || o != nil || a != x.step || b != x.step || c != x.open || d != x.open {
			t.Errorf("%s: %v, %v, %v, %v", name, a, b, c, d)
		}
	}
	for _, x := range []struct {
		before, after api.Estate
		want          api.Errno
	}{{bad, good, api.ErrEstate}, {good, bad, api.ErrEstate}, {good, other, api.ErrEdge}, {good, good, api.ErrNone}} {
		if o, e := policy.Enables(x.before, x.after, 2); o != nil || e != x.want {
			t.Error(o, e)
		}
	}
	if o, e := policy.Open(good, api.Policy{}, nil, api.Owners{}, 2, 5); o != nil || e != api.ErrNone {
		t.Error(o, e)
	}
	if o, e := policy.Open(good, api.Policy{}, nil, api.Owners{}, -1, 5); o != nil || e != api.ErrNone {
		t.Error(o, e)
	}
}

func TestEnablesAndStep(t *testing.T) {
	other := estate([]int{10, 2}, []int{10}, []int{2, 10})
	other.Endpoints[2].Identities[0].Key.Bits = 4096
	for name, x := range map[string]struct {
		before, after api.Estate
		enables       string
		step          string
	}{
		"at one end":      {estate([]int{10}, []int{10}, []int{10}), estate([]int{10, 2}, []int{10}, []int{10}), "[]", "[]"},
		"at both":         {estate([]int{10, 2}, []int{10}, []int{10}), estate([]int{10, 2}, []int{10}, []int{10, 2}), "[{1 2} {2 2} {3 2}]", "[0]"},
		"for all":         {estate([]int{10, 2}, []int{2}, []int{10}), estate([]int{10, 2}, []int{2}, []int{10, 2}), "[{1 2} {2 2} {3 2}]", "[0 1]"},
		"something good":  {estate([]int{10, 2}, []int{2}, []int{2}), estate([]int{10, 2}, []int{2}, []int{10, 2}), "[{3 10}]", "[]"},
		"less":            {estate([]int{10, 2}, []int{2}, []int{2, 10}), estate([]int{10, 2}, []int{2}, []int{10}), "[]", "[]"},
		"with other uses": {estate([]int{10, 2}, []int{10}, []int{2, 10}), other, "[{1 2} {2 2} {3 2} {3 10}]", "[0]"},
		"nothing":         {other, other, "[]", "[]"},
	} {
		l, e := policy.Enables(x.before, x.after, 0)
		m, f := policy.Step(x.before, x.after, rules("forbid rc4"), nil, api.Owners{}, 5)
		if fmt.Sprint(l) != x.enables || fmt.Sprint(m) != x.step || e != api.OK || f != api.OK {
			t.Errorf("%s: %v, %v, %v, %v", name, l, m, e, f)
		}
	}
	if l, _ := policy.Step(estate(nil, nil, nil), estate([]int{2}, nil, []int{2}), rules("forbid rc4 from 6"), nil, api.Owners{}, 5); len(l) != 0 {
		t.Error(l)
	}
}

func TestCleanAndProgress(t *testing.T) {
	before, after := estate([]int{10, 2}, []int{10}, []int{10, 2}), estate([]int{10, 2}, []int{10, 1}, []int{10, 1})
	p := rules("forbid rc4")
	if l, e := policy.Clean(before, p, nil, api.Owners{}, 5); fmt.Sprint(l) != "[1]" || e != api.OK {
		t.Error(l, e)
	}
	if n, m, e := policy.Progress(before, after, p, nil, api.Owners{}, 5); n != 3 || m != 2 || e != api.OK {
		t.Error(n, m, e)
	}
}

// If Step names no edge, what is open behind it was possible before; what is clean has no way down.
func TestConsequences(t *testing.T) {
	r := rand.New(rand.NewSource(20))
	some := func() []int {
		l := r.Perm(13)[:r.Intn(5)]
		for i := range l {
			l[i]++
		}
		return l
	}
	p := rules("forbid rc4\nforbid des3\nforbid rsakx")
	for range 500 {
		before, after := estate(some(), some(), some()), estate(some(), some(), some())
		steps, _ := policy.Step(before, after, p, nil, api.Owners{}, 5)
		for edge := range 2 {
			open, _ := policy.Open(after, p, nil, api.Owners{}, edge, 5)
			fresh, _ := policy.Enables(before, after, edge)
			if named := slices.ContainsFunc(open, func(o api.Outcome) bool { return slices.Contains(fresh, o) }); named != slices.Contains(steps, edge) {
				t.Fatalf("%v, %v: %v", open, fresh, steps)
			}
		}
		clean, _ := policy.Clean(after, p, nil, api.Owners{}, 5)
		for _, edge := range clean {
			client, server := after.Endpoints[edge], after.Endpoints[2]
			if ways, _ := downgrade.Down(client, server, p, nil, api.Owners{}, 5, 512); len(ways) > 0 {
				t.Fatalf("%v", ways)
			}
		}
		dropped := after
		dropped.Endpoints = slices.Clone(after.Endpoints)
		dropped.Endpoints[2].Suites = after.Endpoints[2].Suites[:len(after.Endpoints[2].Suites)/2]
		if l, _ := policy.Step(after, dropped, p, nil, api.Owners{}, 5); len(l) > 0 {
			t.Fatalf("%v", l)
		}
	}
}

func TestFirstDay(t *testing.T) {
	e := estate([]int{2}, []int{2}, []int{2})
	if l, err := policy.Open(e, rules("forbid rc4"), nil, api.Owners{}, 1, 0); len(l) != 3 || err != api.OK {
		t.Error(l, err)
	}
}
