package planner_test

import (
	"fmt"
	"math/rand"
	"slices"
	"testing"

	"cipherplan/api"
	"cipherplan/certificate"
	"cipherplan/change"
	"cipherplan/estate"
	"cipherplan/plan"
	"cipherplan/planner"
	"cipherplan/proof"
	"cipherplan/rule"
)

var rsa = api.Use{Alg: api.RSA, Bits: 2048}

func identity(key, anchor, from, to int) api.Identity {
	c, _ := certificate.Sign(api.Certificate{Issuer: "root", Subject: "web", Key: rsa, KeyId: key, Hash: api.Use{Alg: api.SHA256}, From: from, To: to, Names: []string{"web"}}, anchor)
	return api.Identity{Key: rsa, KeyId: key, Chain: []api.Certificate{c}}
}

// world: app and db are clients of web, whose certificate is sealed by the anchor 9.
func world() api.Estate {
	client := func(name string) api.Endpoint {
		return api.Endpoint{Name: name, Least: 1, Most: 3, Suites: []int{10, 2}, Anchors: []int{9}, Hashes: []int{3}}
	}
	web := api.Endpoint{Name: "web", Least: 1, Most: 3, Suites: []int{2}, Identities: []api.Identity{identity(1, 9, 0, 100)}}
	return api.Estate{Endpoints: []api.Endpoint{client("app"), client("db"), web}, Edges: []api.Edge{{Client: 0, Server: 2}, {Client: 1, Server: 2}}}
}

func calendar() api.Calendar {
	var c api.Calendar
	for i := range 20 {
		c.Windows = append(c.Windows, api.Window{Days: api.Span{From: 5 * i, To: 5*i + 2}, Teams: []int{0, 1}})
	}
	c.Team, c.Room = []int{0, 0, 1}, []int{2, 1}
	return c
}

func anchor(at, n int) api.Change {
	return api.Change{Endpoint: at, Kind: api.AddAnchor, Number: n}
}

// renew: web gets an identity below another anchor, in an order that would break both edges.
func renew() []api.Change {
	return []api.Change{{Endpoint: 2, Kind: api.DropIdentity, Number: 1}, {Endpoint: 2, Kind: api.AddIdentity, Identity: identity(2, 8, 0, 300)}, anchor(0, 8), anchor(1, 8)}
}

func bad() api.Estate {
	e := world()
	e.Endpoints[0].Least = 0
	return e
}

func TestGood(t *testing.T) {
	for name, x := range map[string]struct {
		s        api.Set
		from, to int
		want     bool
	}{
		"none": {nil, 5, 90, true}, "one": {api.Set{2}, 5, 90, true}, "too early": {api.Set{1, 2}, 5, 90, false}, "all": {api.Set{1, 2, 3}, 5, 90, true}, "no state": {api.Set{0, 1, 2, 3}, 5, 290, true},
		"until": {nil, 5, 100, false}, "turned": {nil, 6, 5, false}, "drop": {api.Set{0}, 5, 90, false},
	} {
		if ok, err := planner.Good(world(), renew(), x.s, x.from, x.to); ok != x.want || err != api.OK {
			t.Errorf("%s: %v, %v", name, ok, err)
		}
	}
	if ok, err := planner.Good(world(), []api.Change{anchor(0, 9)}, api.Set{0}, 5, 90); ok || err != api.OK {
		t.Error(ok, err)
	}
	if ok, err := planner.Good(api.Estate{}, nil, nil, 6, 5); !ok || err != api.OK {
		t.Error(ok, err)
	}
	for _, x := range []struct {
		e    api.Estate
		n    int
		s    api.Set
		from int
		want api.Errno
	}{{bad(), 25, api.Set{30}, -1, api.ErrEstate}, {world(), 25, api.Set{30}, -1, api.ErrLimit}, {world(), 24, api.Set{24}, -1, api.ErrSet}, {world(), 24, api.Set{1, 1}, -1, api.ErrSet}, {world(), 24, api.Set{-1}, 0, api.ErrSet}, {world(), 24, nil, -1, api.ErrRange}, {world(), 24, nil, 40001, api.ErrRange}} {
		if ok, err := planner.Good(x.e, make([]api.Change, x.n), x.s, x.from, 9); ok || err != x.want {
			t.Error(ok, err)
		}
		if ok, err := planner.Good(world(), nil, nil, 9, x.from); x.want == api.ErrRange && (ok || err != x.want) {
			t.Error(ok, err)
		}
	}
}

func TestSequence(t *testing.T) {
	add := api.Change{Endpoint: 2, Kind: api.AddIdentity, Identity: identity(2, 8, 0, 300)}
	for name, x := range map[string]struct {
		l        []api.Change
		from, to int
		want     string
		e        api.Errno
	}{
		"none":        {nil, 5, 90, "[]", api.OK},
		"as they are": {[]api.Change{anchor(0, 8), anchor(1, 8)}, 5, 90, "[0 1]", api.OK},
		"turned":      {[]api.Change{add, anchor(0, 8), anchor(1, 8)}, 5, 90, "[1 2 0]", api.OK},
		"never":       {[]api.Change{add, anchor(0, 8)}, 5, 90, "[]", api.ErrNoPlan},
		"not even so": {nil, 5, 100, "[]", api.ErrNoPlan},
		"many":        {make([]api.Change, 11), -1, 90, "[]", api.ErrLimit},
		"range":       {nil, -1, 90, "[]", api.ErrRange},
		"to":          {nil, 0, 40001, "[]", api.ErrRange},
		"unnamed":     {[]api.Change{anchor(9, 8)}, 5, 90, "[]", api.ErrNoPlan},
	} {
		if l, err := planner.Sequence(world(), x.l, x.from, x.to); fmt.Sprint(l) != x.want || err != x.e {
			t.Errorf("%s: %v, %v", name, l, err)
		}
	}
	if _, err := planner.Sequence(bad(), make([]api.Change, 11), -1, 0); err != api.ErrEstate {
		t.Error(err)
	}
	var ten []api.Change
	for i := range 10 {
		ten = append(ten, anchor(i%2, 20+i))
	}
	ten[9] = add // never possible: all sets are tried
	if l, err := planner.Sequence(world(), ten, 5, 90); l != nil || err != api.ErrNoPlan {
		t.Error(l, err)
	}
}

// Sequence finds the least order whenever there is one.
func TestSequenceIsLeast(t *testing.T) {
	r := rand.New(rand.NewSource(26))
	some := append(renew(), api.Change{Endpoint: 2, Kind: api.SetMost, Number: 2}, api.Change{Endpoint: 0, Kind: api.SetLeast, Number: 3}, api.Change{Endpoint: 2, Kind: api.AddSuite, Number: 10, At: 1}, api.Change{Endpoint: 1, Kind: api.DropSuite, Number: 2}, api.Change{Endpoint: 2, Kind: api.DropSuite, Number: 2})
	found := 0
	for range 60 {
		r.Shuffle(len(some), func(i, j int) { some[i], some[j] = some[j], some[i] })
		l := some[:4]
		want := ""
		for n := range 256 {
			row := []int{n >> 6 & 3, n >> 4 & 3, n >> 2 & 3, n & 3}
			if s := slices.Compact(slices.Sorted(slices.Values(row))); len(s) < 4 || want != "" {
				continue
			}
			ok := true
			for i := range 5 {
				good, _ := planner.Good(world(), l, slices.Sorted(slices.Values(row[:i])), 5, 90)
				ok = ok && good
			}
			if ok {
				want = fmt.Sprint(row)
				found++
			}
		}
		got, err := planner.Sequence(world(), l, 5, 90)
		if (err == api.OK) != (want != "") || err == api.OK && fmt.Sprint(got) != want {
			t.Fatalf("%v: %v, %v, want %s", l, got, err, want)
		}
	}
	if found == 0 {
		t.Error("no orders")
	}
}

func TestMake(t *testing.T) {
	swap := []api.Change{{Endpoint: 2, Kind: api.AddSuite, Number: 10}, {Endpoint: 2, Kind: api.DropSuite, Number: 2}}
	forbid, _, _ := rule.Parse("forbid aesgcm from 3")
	down := []api.Change{{Endpoint: 0, Kind: api.SetLeast, Number: 2}, {Endpoint: 2, Kind: api.SetLeast, Number: 3}, {Endpoint: 2, Kind: api.SetMost, Number: 4}}
	for name, x := range map[string]struct {
		l        []api.Change
		p        api.Policy
		to       int
		required string
		days     string
		e        api.Errno
	}{
		"renewal":    {renew()[1:], api.Policy{}, 90, "[{1 0} {2 0}]", "[5 1 1]", api.OK},
		"suites":     {swap, api.Policy{}, 90, "[{0 1}]", "[1 5]", api.OK},
		"forbidden":  {swap, forbid, 90, "[{0 1}]", "[1 5]", api.OK}, // before day 3
		"nothing":    {nil, api.Policy{}, 90, "[]", "[]", api.OK},
		"impossible": {renew()[:2], api.Policy{}, 90, "[]", "[]", api.ErrNoPlan},
		"too long":   {nil, api.Policy{}, 100, "[]", "[]", api.ErrNoPlan},
		"versions":   {down, api.Policy{}, 90, "[{2 0} {2 1}]", "[5 5 1]", api.OK},
	} {
		p, f, err := planner.Make(world(), calendar(), x.l, x.p, nil, api.Owners{}, 1, x.to)
		if fmt.Sprint(p.Required) != x.required || fmt.Sprint(p.Days) != x.days || err != x.e {
			t.Errorf("%s: %v, %v, %v", name, p.Required, p.Days, err)
		}
		if err != api.OK && (len(f.Cases) > 0 || !plan.Same(p, api.Plan{})) {
			t.Errorf("%s: %v, %v", name, p, f)
		}
		if err == api.OK && (plan.Check(world(), calendar(), p) != api.OK || proof.Check(world(), p, 1, x.to, f) != api.OK) {
			t.Errorf("%s: %v, %v", name, plan.Check(world(), calendar(), p), proof.Check(world(), p, 1, x.to, f))
		}
	}
}

// versions returns an estate whose clients wait for the version 4, and web's changes for it, in the wrong order.
func versions() (api.Estate, []api.Change) {
	e := world()
	for i := range e.Endpoints {
		e.Endpoints[i].Suites = append(e.Endpoints[i].Suites, 14)
	}
	e.Endpoints[0].Most, e.Endpoints[1].Most, e.Endpoints[2].Suites = 4, 4, []int{2}
	return e, []api.Change{{Endpoint: 2, Kind: api.SetMost, Number: 4}, {Endpoint: 2, Kind: api.AddSuite, Number: 14}}
}

// Where the ranks are of no use: both changes have the same one, but only one order keeps the edges.
func TestMakeBySequence(t *testing.T) {
	e, l := versions()
	p, f, err := planner.Make(e, calendar(), l, api.Policy{}, nil, api.Owners{}, 1, 90)
	if fmt.Sprint(p.Required, p.Days) != "[{1 0}] [5 1]" || err != api.OK || proof.Check(e, p, 1, 90, f) != api.OK {
		t.Error(p.Required, p.Days, err)
	}
	forbid, _, _ := rule.Parse("forbid aesgcm")
	if p, f, err := planner.Make(e, calendar(), l, forbid, nil, api.Owners{}, 1, 90); err != api.ErrNoPlan || len(f.Cases) > 0 {
		t.Error(p, err)
	}
}

// Where no sequence is good on the first day, as a certificate holds only later, but the changes are not made before.
func TestMakeAsGiven(t *testing.T) {
	e, l := versions()
	for i := range 2 {
		e.Endpoints[i].Anchors = []int{8, 9}
	}
	l = []api.Change{{Endpoint: 2, Kind: api.AddIdentity, Identity: identity(2, 8, 5, 300)}, l[1], l[0]}
	c := calendar()
	c.Windows = c.Windows[1:]
	if _, err := planner.Sequence(e, l, 1, 90); err != api.ErrNoPlan {
		t.Error(err)
	}
	p, f, err := planner.Make(e, c, l, api.Policy{}, nil, api.Owners{}, 1, 90)
	if fmt.Sprint(p.Required, p.Days) != "[{0 1} {1 2}] [5 10 15]" || err != api.OK || proof.Check(e, p, 1, 90, f) != api.OK {
		t.Error(p.Required, p.Days, err)
	}
	many := slices.Clone(l)
	for i := range 7 {
		many = append(many, anchor(0, 30+i))
	}
	if p, _, err := planner.Make(e, c, many, api.Policy{}, nil, api.Owners{}, 1, 90); len(p.Required) != 9 || err != api.OK {
		t.Error(p.Required, err)
	}
	many = append(many, anchor(0, 40))
	if _, _, err := planner.Make(e, c, many, api.Policy{}, nil, api.Owners{}, 1, 90); err != api.ErrNoPlan {
		t.Error(err)
	}
}

func TestMakeErrors(t *testing.T) {
	wrong := api.Policy{Rules: []api.Rule{{}}}
	short := calendar()
	short.Team = short.Team[:2]
	for name, x := range map[string]struct {
		e        api.Estate
		c        api.Calendar
		l        []api.Change
		p        api.Policy
		x        []api.Exception
		from, to int
		want     api.Errno
	}{
		"estate":    {bad(), short, make([]api.Change, 25), wrong, []api.Exception{{}}, -1, 0, api.ErrEstate},
		"calendar":  {world(), short, make([]api.Change, 25), wrong, []api.Exception{{}}, -1, 0, api.ErrForm},
		"25":        {world(), calendar(), make([]api.Change, 25), wrong, []api.Exception{{}}, -1, 0, api.ErrLimit},
		"change":    {world(), calendar(), []api.Change{anchor(3, 1)}, wrong, []api.Exception{{}}, -1, 0, api.ErrChange},
		"rule":      {world(), calendar(), nil, wrong, []api.Exception{{}}, -1, 0, api.ErrRule},
		"exception": {world(), calendar(), nil, api.Policy{}, []api.Exception{{}}, -1, 0, api.ErrException},
		"from":      {world(), calendar(), nil, api.Policy{}, nil, -1, 0, api.ErrRange},
		"to":        {world(), calendar(), nil, api.Policy{}, nil, 0, 40001, api.ErrRange},
	} {
		if p, f, err := planner.Make(x.e, x.c, x.l, x.p, x.x, api.Owners{}, x.from, x.to); err != x.want || len(f.Cases) > 0 || !plan.Same(p, api.Plan{}) {
			t.Errorf("%s: %v", name, err)
		}
	}
}

func TestRelax(t *testing.T) {
	l := append(renew()[1:], anchor(0, 30), anchor(0, 31))
	p, _, err := planner.Make(world(), calendar(), l, api.Policy{}, nil, api.Owners{}, 1, 90)
	if err != api.OK {
		t.Fatal(err)
	}
	q, err := planner.Relax(world(), p, 1, 90)
	if fmt.Sprint(q.Required) != "[{1 0} {2 0}]" || !slices.Equal(q.Days, p.Days) || len(p.Required) != 4 || err != api.OK {
		t.Error(q.Required, p.Required, err)
	}
	if q, err := planner.Relax(world(), p, 1, 100); err != api.ErrEdge || !plan.Same(q, api.Plan{}) {
		t.Error(q, err)
	}
	if _, err := planner.Relax(world(), p, -1, 100); err != api.ErrRange {
		t.Error(err)
	}
}

func TestReverse(t *testing.T) {
	l := []api.Change{anchor(0, 8), {Endpoint: 2, Kind: api.DropIdentity, Number: 1}, {Endpoint: 0, Kind: api.DropAnchor, Number: 8}, {Endpoint: 2, Kind: api.AddIdentity, Identity: identity(2, 8, 0, 9)}, {Endpoint: 2, Kind: api.SetMost, Number: 4}}
	back, err := planner.Reverse(world(), l)
	if err != api.OK || len(back) != 5 || !change.Same(back[4], api.Change{Kind: api.DropAnchor, Number: 8}) || !change.Same(back[0], api.Change{Endpoint: 2, Kind: api.SetMost, Number: 3}) {
		t.Error(back, err)
	}
	all := append(slices.Clone(l), back...)
	var s api.Set
	for i := range all {
		s = append(s, i)
	}
	if e, err := estate.State(world(), all, s); err != api.OK || !estate.Same(e, world()) {
		t.Error(e, err)
	}
	for _, x := range []struct {
		e    api.Estate
		l    []api.Change
		want api.Errno
	}{{bad(), make([]api.Change, 25), api.ErrEstate}, {world(), make([]api.Change, 25), api.ErrLimit}, {world(), []api.Change{anchor(0, 8), anchor(0, 8)}, api.ErrDone}, {world(), []api.Change{anchor(9, 8)}, api.ErrChange}} {
		if back, err := planner.Reverse(x.e, x.l); back != nil || err != x.want {
			t.Error(back, err)
		}
	}
	if back, err := planner.Reverse(world(), nil); len(back) != 0 || err != api.OK {
		t.Error(back, err)
	}
}

func TestOneDay(t *testing.T) {
	if ok, err := planner.Good(world(), nil, nil, 0, 0); !ok || err != api.OK {
		t.Error(ok, err)
	}
	if l, err := planner.Sequence(world(), nil, 0, 0); len(l) != 0 || err != api.OK {
		t.Error(l, err)
	}
}
