package proof_test

import (
	"fmt"
	"math/rand"
	"slices"
	"testing"

	"cipherplan/api"
	"cipherplan/certificate"
	"cipherplan/conversation"
	"cipherplan/estate"
	"cipherplan/order"
	"cipherplan/proof"
	"cipherplan/rule"
)

var rsa = api.Use{Alg: api.RSA, Bits: 2048}

func identity(key, anchor, from, to int) api.Identity {
	c, _ := certificate.Sign(api.Certificate{Issuer: "root", Subject: "web", Key: rsa, KeyId: key, Hash: api.Use{Alg: api.SHA256}, From: from, To: to, Names: []string{"web"}}, anchor)
	return api.Identity{Key: rsa, KeyId: key, Chain: []api.Certificate{c}}
}

// estate1: app and db are clients of web, whose certificate is sealed by the anchor 9; zoo is alone.
func estate1() api.Estate {
	client := func(name string) api.Endpoint {
		return api.Endpoint{Name: name, Least: 1, Most: 3, Suites: []int{10, 2}, Anchors: []int{9}, Hashes: []int{3}}
	}
	web := api.Endpoint{Name: "web", Least: 1, Most: 3, Suites: []int{2}, Identities: []api.Identity{identity(1, 9, 0, 100)}}
	return api.Estate{Endpoints: []api.Endpoint{client("app"), client("db"), web, client("zoo")}, Edges: []api.Edge{{Client: 0, Server: 2}, {Client: 1, Server: 2}}}
}

func r(first, then int) api.Required { return api.Required{First: first, Then: then} }

// renew: the clients get the anchor 8, web an identity below it, and then loses the old one.
func renew() api.Plan {
	return api.Plan{
		Changes:  []api.Change{{Endpoint: 0, Kind: api.AddAnchor, Number: 8}, {Endpoint: 1, Kind: api.AddAnchor, Number: 8}, {Endpoint: 2, Kind: api.AddIdentity, Identity: identity(2, 8, 0, 300)}, {Endpoint: 2, Kind: api.DropIdentity, Number: 1}},
		Required: []api.Required{r(0, 2), r(1, 2), r(2, 3)},
		Days:     []int{10, 11, 20, 30},
	}
}

func TestSets(t *testing.T) {
	for edge, want := range []string{"[[] [0] [0 2] [0 2 3]]", "[[] [1] [1 2] [1 2 3]]"} {
		if l, err := proof.Sets(estate1(), renew(), edge); fmt.Sprint(l) != want || err != api.OK {
			t.Errorf("%d: %v, %v", edge, l, err)
		}
	}
	p := renew()
	p.Required = []api.Required{r(0, 1), r(1, 3)} // 0 before 3 follows through a change that is not relevant
	if l, err := proof.Sets(estate1(), p, 0); fmt.Sprint(l) != "[[] [0] [2] [0 2] [0 3] [0 2 3]]" || err != api.OK {
		t.Error(l, err)
	}
	if l, err := proof.Sets(estate1(), api.Plan{}, 0); fmt.Sprint(l) != "[[]]" || err != api.OK {
		t.Error(l, err)
	}
}

func free(n int) api.Plan {
	p := api.Plan{Days: make([]int, n)}
	for i := range n {
		p.Changes = append(p.Changes, api.Change{Kind: api.AddAnchor, Number: 20 + i})
	}
	return p
}

func TestErrors(t *testing.T) {
	bad := estate1()
	bad.Edges[0].Client = 9
	one := estate1()
	one.Edges = one.Edges[:1]
	rules := api.Policy{Rules: []api.Rule{{}}}
	change := func(f func(p *api.Plan)) api.Plan {
		p := renew()
		f(&p)
		return p
	}
	for name, x := range map[string]struct {
		e                api.Estate
		p                api.Plan
		from, to         int
		sets, made, step api.Errno
	}{
		"estate":      {bad, api.Plan{Days: []int{1}}, -1, 0, api.ErrEstate, api.ErrEstate, api.ErrEstate},
		"25":          {estate1(), free(25), -1, 0, api.ErrPlan, api.ErrPlan, api.ErrPlan},
		"endpoint":    {estate1(), change(func(p *api.Plan) { p.Changes[0].Endpoint = 4 }), -1, 0, api.ErrPlan, api.ErrPlan, api.ErrPlan},
		"days":        {estate1(), change(func(p *api.Plan) { p.Days = p.Days[1:] }), -1, 0, api.ErrPlan, api.ErrPlan, api.ErrPlan},
		"day":         {estate1(), change(func(p *api.Plan) { p.Days[0] = -1 }), -1, 0, api.ErrPlan, api.ErrPlan, api.ErrPlan},
		"late day":    {estate1(), change(func(p *api.Plan) { p.Days[0] = 40001 }), -1, 0, api.ErrPlan, api.ErrPlan, api.ErrPlan},
		"requirement": {estate1(), change(func(p *api.Plan) { p.Required[0].Then = 9 }), -1, 0, api.ErrPlan, api.ErrPlan, api.ErrPlan},
		"loop":        {estate1(), change(func(p *api.Plan) { p.Required = append(p.Required, r(3, 0)) }), -1, 0, api.ErrPlan, api.ErrPlan, api.ErrPlan},
		"edge, from":  {estate1(), renew(), -1, 0, api.ErrNone, api.ErrRange, api.ErrRule},
		"to":          {estate1(), free(13), 0, 40001, api.ErrNone, api.ErrRange, api.ErrRule},
	} {
		l, a := proof.Sets(x.e, x.p, 7)
		f, b := proof.Make(x.e, x.p, x.from, x.to)
		c, ok, d := proof.Fails(x.e, x.p, x.from, x.to)
		g := proof.Check(x.e, x.p, x.from, x.to, api.Proof{})
		s, h := proof.Steps(x.e, x.p, rules, []api.Exception{{}}, api.Owners{})
		if l != nil || f.Cases != nil || c.Set != nil || ok || s != nil || a != x.sets || b != x.made || d != x.made || g != x.made || h != x.step {
			t.Errorf("%s: %v %v %v %v %v", name, a, b, d, g, h)
		}
	}
	for n, want := range map[int]api.Errno{12: api.OK, 13: api.ErrLimit} {
		if l, err := proof.Sets(one, free(n), 0); err != want || err == api.OK && len(l) != 4096 {
			t.Errorf("%d: %d, %v", n, len(l), err)
		}
		if _, _, err := proof.Fails(one, free(n), 50, 40); err != want {
			t.Errorf("%d: %v", n, err)
		}
		if _, err := proof.Make(estate1(), free(n), 50, 40); err != api.ErrLimit {
			t.Errorf("%d: %v", n, err)
		}
	}
	if _, err := proof.Steps(estate1(), renew(), api.Policy{}, []api.Exception{{}}, api.Owners{}); err != api.ErrException {
		t.Error(err)
	}
	if _, err := proof.Steps(one, free(13), api.Policy{}, nil, api.Owners{}); err != api.ErrLimit {
		t.Error(err)
	}
	if _, err := proof.Sets(estate1(), renew(), -1); err != api.ErrNone {
		t.Error(err)
	}
}

func TestMakeAndFails(t *testing.T) {
	change := func(f func(p *api.Plan)) api.Plan {
		p := renew()
		f(&p)
		return p
	}
	long := estate1()
	for name, x := range map[string]struct {
		p        api.Plan
		from, to int
		fails    string
		cases    int
	}{
		"good":                {renew(), 5, 90, "", 8},
		"before the end":      {renew(), 5, 29, "", 6},
		"before all":          {renew(), 5, 9, "", 2},
		"no days":             {renew(), 50, 40, "", 0},
		"from behind all":     {renew(), 50, 90, "", 8},
		"the old one ends":    {renew(), 5, 100, "{0 [] {0 0}}", 0},
		"anchors too late":    {change(func(p *api.Plan) { p.Required = p.Required[1:] }), 5, 90, "{0 [2] {0 0}}", 0},
		"for the second edge": {change(func(p *api.Plan) { p.Required = []api.Required{r(0, 2), r(2, 3)} }), 5, 90, "{1 [2] {0 0}}", 0},
		"no longer there":     {change(func(p *api.Plan) { p.Required = p.Required[:2] }), 5, 90, "{0 [3] {0 0}}", 0},
		"not applicable":      {change(func(p *api.Plan) { p.Changes[0].Number = 9 }), 5, 90, "{0 [0] {0 0}}", 0},
		"but not in time":     {change(func(p *api.Plan) { p.Changes[0].Number = 9 }), 5, 9, "", 2},
		"no changes":          {api.Plan{}, 5, 90, "", 2},
	} {
		c, fails, err := proof.Fails(long, x.p, x.from, x.to)
		f, err2 := proof.Make(long, x.p, x.from, x.to)
		if fails != (x.fails != "") || fails && fmt.Sprint(c) != x.fails || !fails && c.Set != nil || err != api.OK || len(f.Cases) != x.cases || (err2 == api.ErrEdge) != fails {
			t.Errorf("%s: %v, %v, %v, %v", name, c, err, f, err2)
		}
		want := err2
		if e := proof.Check(long, x.p, x.from, x.to, f); e != want {
			t.Errorf("%s: %v", name, e)
		}
		f.Cases = append(f.Cases, api.Case{})
		if e := proof.Check(long, x.p, x.from, x.to, f); e != api.ErrProof && want == api.OK {
			t.Errorf("%s: %v", name, e)
		}
	}
	f, _ := proof.Make(long, renew(), 5, 90)
	if fmt.Sprint(f) != "{[{0 [] {3 2}} {0 [0] {3 2}} {0 [0 2] {3 2}} {0 [0 2 3] {3 2}} {1 [] {3 2}} {1 [1] {3 2}} {1 [1 2] {3 2}} {1 [1 2 3] {3 2}}]}" {
		t.Error(f)
	}
}

func TestSame(t *testing.T) {
	a := api.Proof{Cases: []api.Case{{Edge: 1, Set: api.Set{1}, Outcome: api.Outcome{Version: 1}}}}
	for _, c := range []api.Case{{Edge: 2, Set: api.Set{1}, Outcome: api.Outcome{Version: 1}}, {Edge: 1, Set: api.Set{2}, Outcome: api.Outcome{Version: 1}}, {Edge: 1, Set: api.Set{1}, Outcome: api.Outcome{Suite: 1}}} {
		if proof.Same(a, api.Proof{Cases: []api.Case{c}}) {
			t.Error(c)
		}
	}
	if !proof.Same(a, a) || proof.Same(a, api.Proof{}) {
		t.Error("same")
	}
}

func TestSteps(t *testing.T) {
	p, _, _ := rule.Parse("forbid aesgcm from 15")
	add := func(days ...int) api.Plan {
		return api.Plan{Changes: []api.Change{{Endpoint: 2, Kind: api.AddSuite, Number: 10}, {Endpoint: 0, Kind: api.DropSuite, Number: 10}, {Endpoint: 1, Kind: api.DropSuite, Number: 10}}, Days: days}
	}
	need := add(20, 9, 9)
	need.Required = []api.Required{r(1, 0), r(2, 0)}
	later := add(20, 25, 26)
	later.Required = []api.Required{r(0, 1), r(0, 2)}
	double := add(20, 9, 9)
	double.Changes[1].Number = 77 // can't be done: its states do not count
	double.Required = need.Required
	for name, x := range map[string]struct {
		p    api.Plan
		want string
	}{
		"in time": {add(14, 9, 9), "[]"}, "too late": {add(15, 9, 9), "[0]"}, "needed": {need, "[]"}, "later": {later, "[0]"}, "impossible": {double, "[]"},
		"the other end": {api.Plan{Changes: []api.Change{{Endpoint: 0, Kind: api.DropSuite, Number: 10}, {Endpoint: 2, Kind: api.AddSuite, Number: 10}, {Endpoint: 0, Kind: api.AddSuite, Number: 10}}, Required: []api.Required{r(0, 1), r(1, 2)}, Days: []int{1, 2, 20}}, "[2]"},
		"renewal":       {renew(), "[]"},
	} {
		e := estate1()
		if name == "the other end" || name == "needed" || name == "impossible" {
			e.Edges = e.Edges[:1]
		}
		if l, err := proof.Steps(e, x.p, p, nil, api.Owners{}); fmt.Sprint(l) != x.want || err != api.OK {
			t.Errorf("%s: %v, %v", name, l, err)
		}
	}
	// All days of a case are at most that of the change: 10 comes to web on day 20 only, behind the change at app.
	q := api.Plan{Changes: []api.Change{{Endpoint: 0, Kind: api.SetMost, Number: 2}, {Endpoint: 2, Kind: api.AddSuite, Number: 10}, {Endpoint: 0, Kind: api.SetMost, Number: 3}}, Required: []api.Required{r(0, 1), r(0, 2)}, Days: []int{1, 20, 14}}
	e := estate1()
	e.Edges = e.Edges[:1]
	if l, err := proof.Steps(e, q, p, nil, api.Owners{}); fmt.Sprint(l) != "[1]" || err != api.OK {
		t.Error(l, err)
	}
}

// If there is a proof, each edge works in the state of each closed set whose days have come.
func TestAllStates(t *testing.T) {
	rnd := rand.New(rand.NewSource(25))
	proofs := 0
	for range 400 {
		p := renew()
		var needs []api.Required
		for i := range 4 {
			for j := range i {
				if rnd.Intn(2) > 0 {
					needs = append(needs, r(j, i))
				}
			}
		}
		slices.SortFunc(needs, func(a, b api.Required) int { return a.First*9 + a.Then - b.First*9 - b.Then })
		p.Required = needs
		e := estate1()
		_, err := proof.Make(e, p, 5, 60)
		good := true
		sets, _ := order.Sets(4, needs)
		for _, s := range sets {
			first := 5
			for _, i := range s {
				first = max(first, p.Days[i])
			}
			state, err := estate.State(e, p.Changes, s)
			if err != api.OK {
				continue
			}
			for edge := range e.Edges {
				if _, err := conversation.During(state, edge, first, 60); err != api.OK {
					good = false
				}
			}
		}
		if err == api.OK {
			proofs++
			if !good {
				t.Fatalf("%v: a proof, and an edge that breaks", needs)
			}
		}
	}
	if proofs == 0 {
		t.Error("no proofs")
	}
}

func TestJustPermitted(t *testing.T) {
	e := estate1()
	p := renew()
	if f, err := proof.Make(e, p, 0, 10); len(f.Cases) != 3 || err != api.OK { // the first change has come on the last day
		t.Error(f, err)
	}
	if f, err := proof.Make(e, api.Plan{}, 0, 0); len(f.Cases) != 2 || err != api.OK {
		t.Error(f, err)
	}
	if _, err := proof.Sets(e, p, 2); err != api.ErrNone {
		t.Error(err)
	}
	many := free(24) // all of zoo, which has no edge
	for i := range many.Changes {
		many.Changes[i].Endpoint = 3
	}
	if l, err := proof.Sets(e, many, 0); len(l) != 1 || err != api.OK {
		t.Error(l, err)
	}
	// Both changes are of one day: either one can be the first, and the second one enables what is forbidden.
	rules, _, _ := rule.Parse("forbid aesgcm from 15")
	both := api.Plan{Changes: []api.Change{{Endpoint: 0, Kind: api.SetLeast, Number: 2}, {Endpoint: 2, Kind: api.AddSuite, Number: 10}}, Required: []api.Required{r(0, 1)}, Days: []int{15, 15}}
	e.Edges = e.Edges[:1]
	if l, err := proof.Steps(e, both, rules, nil, api.Owners{}); fmt.Sprint(l) != "[1]" || err != api.OK {
		t.Error(l, err)
	}
	rules, _, _ = rule.Parse("forbid aesgcm")
	if l, err := proof.Steps(e, api.Plan{Changes: both.Changes[1:], Days: []int{0}}, rules, nil, api.Owners{}); fmt.Sprint(l) != "[0]" || err != api.OK {
		t.Error(l, err)
	}
}
