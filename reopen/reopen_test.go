package reopen_test

import (
	"fmt"
	"math/rand"
	"slices"
	"testing"

	"cipherplan/api"
	"cipherplan/finding"
	"cipherplan/identity"
	"cipherplan/reopen"
)

var md5 = api.Use{Alg: api.MD5}

func f(host string, machine, day, number int) api.Finding {
	return api.Finding{Source: 7, Host: host, Machine: machine, Day: day, Confidence: 50, Kind: api.FindSuite, Subject: "tls", Number: number}
}

func use(host string, day int, u api.Use) api.Finding {
	return api.Finding{Source: 7, Host: host, Day: day, Confidence: 50, Kind: api.FindUse, Subject: "tls", Use: u}
}

func norm(l ...api.Finding) []api.Finding {
	n, _ := finding.Norm(l)
	return n
}

func TestHosts(t *testing.T) {
	l := norm(f("a", 1, 3, 0), f("b", 1, 9, 0), f("c", 2, 3, 0), f("d", 0, 5, 0), f("d", 3, 8, 0), f("e", 3, 8, 0))
	for name, x := range map[string]struct {
		gap  int
		f    api.Finding
		want string
	}{
		"by host": {0, f("a", 0, 50, 0), "[a b]"}, "by machine": {0, f("x", 2, 50, 0), "[c x]"}, "both": {0, f("c", 1, 50, 0), "[a b c]"}, "new": {0, f("x", 9, 50, 0), "[x]"},
		"one more joins": {2, f("d", 3, 6, 0), "[d e]"}, "without": {2, f("d", 0, 50, 0), "[d e]"}, "a new machine": {0, f("d", 4, 5, 0), "[d e]"},
	} {
		if hosts, e := reopen.Hosts(l, x.gap, x.f); fmt.Sprint(hosts) != x.want || e != api.OK {
			t.Errorf("%s: %v, %v", name, hosts, e)
		}
	}
	var many []api.Finding
	for i := range 400 {
		many = append(many, f("a", 0, i, 0))
	}
	for _, x := range []struct {
		l   []api.Finding
		gap int
		f   api.Finding
		e   api.Errno
	}{{[]api.Finding{l[1], l[0]}, -1, api.Finding{}, api.ErrFinding}, {l, -1, api.Finding{}, api.ErrFinding}, {l, -1, l[0], api.ErrRange}, {l, 4001, l[0], api.ErrRange}, {many, 4001, f("b", 0, 1, 0), api.ErrRange}, {many, 0, f("b", 0, 1, 0), api.ErrLimit}, {many, 0, many[0], api.OK}} {
		if hosts, e := reopen.Hosts(x.l, x.gap, x.f); e != x.e || e != api.OK && hosts != nil {
			t.Error(hosts, e)
		}
	}
}

func estate() api.Estate {
	end := func(name string) api.Endpoint { return api.Endpoint{Name: name, Least: 1, Most: 1} }
	item := func(uses ...api.Use) api.Item {
		i := api.Item{Name: "i", Kind: 1, Purpose: 1, Until: 50}
		for n, u := range uses {
			i.Links = append(i.Links, api.Link{Use: u, Day: n})
		}
		return i
	}
	return api.Estate{
		Endpoints: []api.Endpoint{end("a"), end("b"), end("c")},
		Edges:     []api.Edge{{Client: 0, Server: 1}, {Client: 0, Server: 2}, {Client: 1, Server: 0}, {Client: 2, Server: 1}},
		Items:     []api.Item{item(api.Use{Alg: 2}, md5), item(api.Use{Alg: 2}), item(md5)},
	}
}

func d(day, kind, subject int) api.Decision {
	return api.Decision{Day: day, Kind: kind, Subject: subject}
}

func TestTouch(t *testing.T) {
	p := api.Plan{Changes: []api.Change{{Endpoint: 1}, {Endpoint: 2}, {Endpoint: 0}}}
	ledger := api.Ledger{Decisions: []api.Decision{
		d(4, api.DecideWorks, 1), d(5, api.DecideWorks, 1), d(5, api.DecideWorks, 0), d(6, api.DecideChange, 1), d(6, api.DecideChange, 0), d(6, api.DecideStop, 1),
		d(7, api.DecideAllow, api.MD5), d(7, api.DecideGone, api.MD5), d(7, api.DecideGone, api.SHA1), d(7, api.DecideAllow, 0), d(8, api.DecideWorks, 3),
	}}
	off, key := use("c", 5, md5), use("c", 5, api.Use{Alg: api.RSA, Bits: 2048})
	off.Kind, key.Kind = api.FindOff, api.FindKey
	for name, x := range map[string]struct {
		l    []api.Finding
		f    api.Finding
		want string
	}{
		"use":           {nil, use("c", 5, md5), "{[2] [1 3] [0 2] [1] [1 3 6 7 10]}"},
		"off":           {nil, off, "{[2] [1 3] [0 2] [1] [1 3 6 7 10]}"},
		"key":           {nil, key, "{[2] [1 3] [] [1] [1 3 10]}"},
		"suite":         {nil, f("c", 0, 5, 1), "{[2] [1 3] [] [1] [1 3 10]}"},
		"no endpoint":   {nil, use("x", 5, md5), "{[] [] [0 2] [] [6 7]}"},
		"late":          {nil, use("c", 7, md5), "{[2] [1 3] [0 2] [1] [6 7 10]}"},
		"other machine": {norm(f("b", 3, 1, 0), f("c", 3, 1, 0)), f("c", 0, 8, 1), "{[1 2] [0 1 2 3] [] [0 1] [10]}"},
	} {
		got, e := reopen.Touch(estate(), p, ledger, x.l, 0, x.f)
		if fmt.Sprint(got) != x.want || e != api.OK {
			t.Errorf("%s: %v, %v", name, got, e)
		}
	}
	bad := estate()
	bad.Endpoints[0].Least = 0
	many := api.Ledger{Decisions: make([]api.Decision, 129)}
	for _, x := range []struct {
		e    api.Estate
		p    api.Plan
		d    api.Ledger
		l    []api.Finding
		gap  int
		want api.Errno
	}{
		{bad, api.Plan{Changes: make([]api.Change, 25)}, many, make([]api.Finding, 1), -1, api.ErrEstate}, {estate(), api.Plan{Changes: make([]api.Change, 25)}, many, make([]api.Finding, 1), -1, api.ErrPlan},
		{estate(), api.Plan{Changes: []api.Change{{Endpoint: 3}}}, many, make([]api.Finding, 1), -1, api.ErrPlan}, {estate(), p, many, make([]api.Finding, 1), -1, api.ErrLimit}, {estate(), p, ledger, make([]api.Finding, 1), -1, api.ErrFinding}, {estate(), p, ledger, nil, -1, api.ErrRange},
	} {
		if got, e := reopen.Touch(x.e, x.p, x.d, x.l, x.gap, f("a", 0, 0, 0)); !reopen.Same(got, api.Touched{}) || e != x.want {
			t.Error(got, e)
		}
	}
}

func r(first, then int) api.Required { return api.Required{First: first, Then: then} }

func TestBehind(t *testing.T) {
	p := api.Plan{Changes: make([]api.Change, 6), Required: []api.Required{r(0, 2), r(1, 2), r(2, 4), r(5, 3)}}
	for _, x := range []struct {
		s    api.Set
		want string
		e    api.Errno
	}{{nil, "[]", api.OK}, {api.Set{0}, "[0 2 4]", api.OK}, {api.Set{2, 5}, "[2 3 4 5]", api.OK}, {api.Set{3, 4}, "[3 4]", api.OK}, {api.Set{1, 0}, "[]", api.ErrSet}, {api.Set{6}, "[]", api.ErrSet}, {api.Set{-1}, "[]", api.ErrSet}} {
		if s, e := reopen.Behind(p, x.s); fmt.Sprint(s) != x.want || e != x.e {
			t.Errorf("%v: %v, %v", x.s, s, e)
		}
	}
	for _, q := range []api.Plan{{Changes: make([]api.Change, 25)}, {Changes: make([]api.Change, 2), Required: []api.Required{r(0, 1), r(1, 0)}}, {Required: []api.Required{r(0, 1)}}} {
		if s, e := reopen.Behind(q, api.Set{99}); s != nil || e != api.ErrPlan {
			t.Error(s, e)
		}
	}
}

func TestUnionAndSame(t *testing.T) {
	a := api.Touched{Endpoints: []int{1, 3}, Edges: []int{2}, Items: []int{1}, Changes: []int{5}, Decisions: []int{0}}
	b := api.Touched{Endpoints: []int{0, 3}, Edges: []int{1}, Changes: []int{5, 6}}
	u := reopen.Union(a, b)
	if fmt.Sprint(u) != "{[0 1 3] [1 2] [1] [5 6] [0]}" || !reopen.Same(u, reopen.Union(b, a)) || !reopen.Same(u, reopen.Union(u, u)) || !reopen.Same(reopen.Union(u, a), u) {
		t.Error(u)
	}
	for i, c := range []api.Touched{{Endpoints: []int{1}}, {Edges: []int{1}}, {Items: []int{1}}, {Changes: []int{1}}, {Decisions: []int{1}}} {
		if reopen.Same(c, api.Touched{}) || !reopen.Same(c, c) {
			t.Errorf("%d", i)
		}
	}
}

// Entities that have no host among Hosts have the same findings with and without the late one.
func TestOthersStay(t *testing.T) {
	rnd := rand.New(rand.NewSource(31))
	for range 1000 {
		var some []api.Finding
		for range 8 {
			some = append(some, f(string(rune('a'+rnd.Intn(4))), rnd.Intn(4), rnd.Intn(9), 0))
		}
		l, late := norm(some[1:]...), some[0]
		hosts, _ := reopen.Hosts(l, 2, late)
		merged := norm(append(l, late)...)
		before, _ := identity.Entities(l, 2)
		after, _ := identity.Entities(merged, 2)
		other := func(l []api.Finding, entities []api.Entity) string {
			s := ""
			for _, e := range entities {
				if !slices.ContainsFunc(e.Hosts, func(h string) bool { return slices.Contains(hosts, h) }) {
					for _, i := range e.Findings {
						s += fmt.Sprint(l[i])
					}
					s += "; "
				}
			}
			return s
		}
		if a, b := other(l, before), other(merged, after); a != b {
			t.Fatalf("%v, %v: %s, %s", l, late, a, b)
		}
	}
}

func TestJustPermitted(t *testing.T) {
	p, l := api.Plan{Changes: make([]api.Change, 24)}, api.Ledger{Decisions: make([]api.Decision, 128)}
	if got, e := reopen.Touch(estate(), p, l, nil, 0, f("a", 0, 0, 0)); len(got.Changes) != 24 || e != api.OK {
		t.Error(got, e)
	}
	good := norm(f("a", 1, 3, 0))
	if _, e := reopen.Hosts(append(good, good...), 0, good[0]); e != api.ErrFinding {
		t.Error(e)
	}
	if _, e := reopen.Hosts([]api.Finding{{}}, 0, good[0]); e != api.ErrFinding {
		t.Error(e)
	}
}
