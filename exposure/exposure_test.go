package exposure_test

import (
	"fmt"
	"math/rand"
	"slices"
	"testing"

	"cipherplan/api"
	"cipherplan/certificate"
	"cipherplan/exception"
	"cipherplan/exposure"
	"cipherplan/finding"
	"cipherplan/rule"
)

var (
	rsa = api.Use{Alg: api.RSA, Bits: 2048}
	md5 = api.Use{Alg: api.MD5}
	sha = api.Use{Alg: api.SHA256}
)

// estate: app and db are clients of web; db trusts another anchor.
func estate() api.Estate {
	c, _ := certificate.Sign(api.Certificate{Issuer: "root", Subject: "web", Key: rsa, KeyId: 1, Hash: sha, From: 10, To: 20, Names: []string{"web"}}, 9)
	app := api.Endpoint{Name: "app", Least: 1, Most: 3, Suites: []int{10, 2}, Anchors: []int{9}, Hashes: []int{3}, Fallback: true}
	db := app
	db.Name, db.Anchors = "db", []int{8}
	web := api.Endpoint{Name: "web", Least: 1, Most: 3, Suites: []int{10, 2}, Identities: []api.Identity{{Key: rsa, KeyId: 1, Chain: []api.Certificate{c}}}}
	items := []api.Item{
		{Name: "log", Kind: api.ItemSigned, Purpose: api.PurposeSign, Links: []api.Link{{Use: md5, Day: 1}}, Until: 15},
		{Name: "tax", Kind: api.ItemSecret, Purpose: api.PurposeBackup, Links: []api.Link{{Use: api.Use{Alg: api.CHACHA}, Day: 1}}, Until: 30},
	}
	return api.Estate{Endpoints: []api.Endpoint{app, db, web}, Edges: []api.Edge{{Client: 0, Server: 2}, {Client: 1, Server: 2}}, Items: items}
}

func policy(text string) api.Policy {
	p, n, e := rule.Parse(text)
	if e != api.OK {
		panic(fmt.Sprint(n, e))
	}
	return p
}

func TestCheck(t *testing.T) {
	for name, x := range map[string]struct {
		change func(e *api.Estate)
		ok     bool
	}{
		"good":           {func(e *api.Estate) {}, true},
		"empty":          {func(e *api.Estate) { *e = api.Estate{} }, true},
		"endpoint":       {func(e *api.Estate) { e.Endpoints[0].Least = 0 }, false},
		"order":          {func(e *api.Estate) { e.Endpoints[0].Name = "x" }, false},
		"name twice":     {func(e *api.Estate) { e.Endpoints[0].Name = "db" }, false},
		"16 endpoints":   {func(e *api.Estate) { e.Endpoints = ends(16) }, true},
		"17 endpoints":   {func(e *api.Estate) { e.Endpoints = ends(17) }, false},
		"client":         {func(e *api.Estate) { e.Edges[0].Client = -1 }, false},
		"server":         {func(e *api.Estate) { e.Edges[1].Server = 3 }, false},
		"itself":         {func(e *api.Estate) { e.Edges[1].Server = 1 }, false},
		"edges' order":   {func(e *api.Estate) { e.Edges[0], e.Edges[1] = e.Edges[1], e.Edges[0] }, false},
		"edge twice":     {func(e *api.Estate) { e.Edges[0] = e.Edges[1] }, false},
		"servers' order": {func(e *api.Estate) { e.Edges = []api.Edge{{Server: 2}, {Server: 1}} }, false},
		"both ways":      {func(e *api.Estate) { e.Edges = []api.Edge{{Server: 1}, {Server: 2}, {Client: 1}} }, true},
		"40 edges":       {func(e *api.Estate) { e.Endpoints, e.Edges = ends(16), many(40) }, true},
		"41 edges":       {func(e *api.Estate) { e.Endpoints, e.Edges = ends(16), many(41) }, false},
		"item":           {func(e *api.Estate) { e.Items[1].Kind = 0 }, false},
		"30 items":       {func(e *api.Estate) { e.Items = slices.Repeat(e.Items[:1], 30) }, true},
		"31 items":       {func(e *api.Estate) { e.Items = slices.Repeat(e.Items[:1], 31) }, false},
	} {
		e := estate()
		x.change(&e)
		if c := exposure.Check(e); (c == api.OK) != x.ok || !x.ok && c != api.ErrEstate {
			t.Errorf("%s: %v", name, c)
		}
	}
}

func ends(n int) []api.Endpoint {
	var l []api.Endpoint
	for i := range n {
		l = append(l, api.Endpoint{Name: string(rune('a' + i)), Least: 1, Most: 1})
	}
	return l
}

func many(n int) []api.Edge {
	var l []api.Edge
	for i := range n {
		e := api.Edge{Client: i / 15, Server: i % 15}
		if e.Server >= e.Client {
			e.Server++
		}
		l = append(l, e)
	}
	return l
}

func TestRisks(t *testing.T) {
	o := api.Owners{Keys: []int{1}, Need: 1}
	x, _ := exception.Sign(api.Exception{Use: api.Use{Alg: api.RC4, Bits: 128}, Purpose: 1, Endpoint: "web", Days: api.Span{From: 16, To: 18}}, 1)
	for name, y := range map[string]struct {
		text      string
		day, weak int
		want      string
	}{
		"all allowed":       {"", 15, 0, "[{1 1 0}]"},
		"a way down":        {"forbid rc4", 15, 0, "[{3 0 2} {3 0 2} {1 1 0}]"},
		"weak":              {"forbid rc4", 15, 100, "[{3 0 2} {3 0 2} {3 0 2} {1 1 0}]"},
		"open":              {"forbid rsa below 4096", 15, 0, "[{2 0 10} {3 0 2} {3 0 2} {1 1 0}]"},
		"excepted":          {"forbid rc4", 16, 0, "[{1 1 0}]"},
		"broken":            {"forbid rc4", 20, 100, "[{1 0 0} {1 1 0}]"},
		"an item":           {"forbid md5 from 12", 12, 0, "[{1 1 0} {4 0 0}]"},
		"not yet":           {"forbid md5 from 12", 11, 0, "[{1 1 0}]"},
		"on its last day":   {"forbid md5 from 15", 19, 0, "[{1 1 0} {4 0 0}]"},
		"behind the item":   {"forbid md5 from 16", 19, 0, "[{1 1 0}]"},
		"for other things":  {"forbid md5 for backup", 12, 0, "[{1 1 0}]"},
		"two items, broken": {"forbid any", 5, 0, "[{1 0 0} {1 1 0} {4 0 0} {4 1 0}]"},
	} {
		l, e := exposure.Risks(estate(), policy(y.text), []api.Exception{x}, o, y.day, y.weak)
		if fmt.Sprint(l) != y.want || e != api.OK {
			t.Errorf("%s: %v, %v", name, l, e)
		}
		for edge := range 2 {
			risk := slices.ContainsFunc(l, func(r api.Risk) bool { return r.Kind != api.RiskItem && r.Index == edge })
			if day, ok, e := exposure.First(estate(), policy(y.text), []api.Exception{x}, o, edge, y.weak, []int{y.day}); ok != risk || e != api.OK || ok && day != y.day {
				t.Errorf("%s: %d, %v, %v", name, day, ok, e)
			}
		}
	}
	// A broken edge with a way down: with Fallback an older version works, whose suite is forbidden.
	e := estate()
	e.Endpoints[2].Suites = []int{2}
	e.Endpoints[0].Most, e.Endpoints[2].Most = 4, 4
	if l, _ := exposure.Risks(e, policy("forbid rc4"), nil, api.Owners{}, 15, 0); fmt.Sprint(l) != "[{1 0 0} {3 0 2} {3 0 2} {3 0 2} {1 1 0}]" {
		t.Error(l)
	}
}

func TestRisksErrors(t *testing.T) {
	bad := estate()
	bad.Edges[0].Client = 9
	rules := api.Policy{Rules: []api.Rule{{}}}
	for name, x := range map[string]struct {
		e          api.Estate
		p          api.Policy
		l          []api.Exception
		day, weak  int
		risk, edge api.Errno
	}{
		"estate":    {bad, rules, []api.Exception{{}}, -1, -1, api.ErrEstate, api.ErrEstate},
		"rule":      {estate(), rules, []api.Exception{{}}, -1, -1, api.ErrRule, api.ErrRule},
		"exception": {estate(), api.Policy{}, []api.Exception{{}}, -1, -1, api.ErrException, api.ErrException},
		"weak":      {estate(), api.Policy{}, nil, 1, 513, api.ErrRange, api.ErrRange},
		"day":       {estate(), api.Policy{}, nil, -1, 0, api.ErrRange, api.ErrNone},
		"late day":  {estate(), api.Policy{}, nil, 40001, 512, api.ErrRange, api.ErrNone},
	} {
		l, e := exposure.Risks(x.e, x.p, x.l, api.Owners{}, x.day, x.weak)
		day, ok, f := exposure.First(x.e, x.p, x.l, api.Owners{}, 2, x.weak, []int{x.day})
		if l != nil || e != x.risk || f != x.edge || day != 0 || ok {
			t.Errorf("%s: %v, %v", name, e, f)
		}
	}
	if _, _, e := exposure.First(estate(), api.Policy{}, nil, api.Owners{}, -1, 0, nil); e != api.ErrNone {
		t.Error(e)
	}
	if _, _, e := exposure.First(estate(), api.Policy{}, nil, api.Owners{}, 0, 0, []int{1, 40001}); e != api.ErrRange {
		t.Error(e)
	}
}

func TestFirst(t *testing.T) {
	p := policy("forbid rc4 from 14 until 17")
	for _, x := range []struct {
		days []int
		day  int
		ok   bool
	}{{nil, 0, false}, {[]int{10, 13, 17, 19}, 0, false}, {[]int{19, 16, 15, 5}, 16, true}, {[]int{10, 20, 14}, 20, true}, {[]int{0}, 0, true}} {
		if day, ok, e := exposure.First(estate(), p, nil, api.Owners{}, 0, 0, x.days); day != x.day || ok != x.ok || e != api.OK {
			t.Errorf("%v: %d, %v, %v", x, day, ok, e)
		}
	}
}

func f(host string, machine, day, kind int, u api.Use, number int) api.Finding {
	return api.Finding{Source: 7, Host: host, Machine: machine, Day: day, Confidence: 50, Kind: kind, Subject: "tls", Use: u, Number: number}
}

func norm(l ...api.Finding) []api.Finding {
	n, e := finding.Norm(l)
	if e != api.OK {
		panic(e)
	}
	return n
}

func TestWeak(t *testing.T) {
	l := norm(f("b", 1, 3, api.FindUse, md5, 0), f("a", 2, 3, api.FindUse, sha, 0), f("a", 2, 4, api.FindUse, md5, 0), f("c", 3, 3, api.FindUse, md5, 0), f("c", 3, 4, api.FindOff, md5, 0), f("c", 3, 4, api.FindKey, rsa, 1))
	if w, e := exposure.Weak(l, 0, 5, 9, policy("forbid md5\nforbid rsa"), 1); fmt.Sprint(w) != "[{0 tls 1 {1 0} 0  1} {2 tls 1 {1 0} 0  2}]" || e != api.OK {
		t.Error(w, e)
	}
	if w, e := exposure.Weak(l, 0, 5, 9, policy("forbid md5 for code"), 1); len(w) != 0 || e != api.OK {
		t.Error(w, e)
	}
	if w, e := exposure.Weak(l, 0, 5, 9, policy("forbid sha256 from 6"), 1); len(w) != 0 || e != api.OK {
		t.Error(w, e)
	}
}

func TestFindingErrors(t *testing.T) {
	l := norm(f("b", 1, 3, api.FindUse, md5, 0))
	bad := api.Policy{Rules: []api.Rule{{}}}
	for name, x := range map[string]struct {
		l             []api.Finding
		gap, day, age int
		e             api.Errno
	}{
		"not normal": {append(l, l...), -1, -1, -1, api.ErrFinding}, "gap": {l, -1, 0, 0, api.ErrRange}, "great gap": {l, 4001, 0, 0, api.ErrRange}, "day": {l, 0, -1, 0, api.ErrRange},
		"late day": {l, 0, 40001, 0, api.ErrRange}, "age": {l, 0, 0, -1, api.ErrRange}, "great age": {l, 0, 0, 4001, api.ErrRange},
	} {
		w, e := exposure.Weak(x.l, x.gap, x.day, x.age, bad, 0)
		ok, g := exposure.Holds(x.l, x.gap, x.day, x.age, api.Fact{})
		why, h := exposure.Explain(x.l, x.gap, x.day, x.age, api.Fact{})
		if w != nil || ok || why != nil || e != x.e || g != x.e || h != x.e {
			t.Errorf("%s: %v, %v, %v", name, e, g, h)
		}
	}
	if w, e := exposure.Weak(l, 4000, 40000, 4000, bad, 0); w != nil || e != api.ErrRule {
		t.Error(w, e)
	}
	for _, purpose := range []int{0, 5} {
		if w, e := exposure.Weak(l, 0, 3, 0, api.Policy{}, purpose); w != nil || e != api.ErrRange {
			t.Error(w, e)
		}
	}
	if why, e := exposure.Explain(l, 0, 2, 0, api.Fact{}); why != nil || e != api.ErrNone {
		t.Error(why, e)
	}
}

func pick(l []api.Finding, indices []int) []api.Finding {
	var to []api.Finding
	for _, i := range indices {
		to = append(to, l[i])
	}
	return to
}

func TestHoldsAndExplain(t *testing.T) {
	use := api.Fact{Entity: 99, Finding: 99, Subject: "tls", Kind: api.FindUse, Use: md5}
	at := func(host string) api.Fact {
		x := use
		x.Text = host
		return x
	}
	two := norm(f("a", 1, 3, api.FindUse, md5, 0), f("a", 1, 4, api.FindUse, md5, 0))
	off := norm(f("a", 1, 3, api.FindUse, md5, 0), f("a", 1, 4, api.FindOff, md5, 0), f("b", 2, 3, api.FindUse, md5, 0), f("a", 1, 5, api.FindUse, md5, 0))
	named := norm(f("a", 0, 3, api.FindUse, md5, 0), f("a", 1, 4, api.FindLeast, api.Use{}, 1), f("b", 1, 9, api.FindLeast, api.Use{}, 1))
	for name, x := range map[string]struct {
		l   []api.Finding
		day int
		f   api.Fact
		why string
	}{
		"the later one":     {two, 5, use, "[1]"},
		"the earlier one":   {two, 3, use, "[0]"},
		"with one off":      {off, 4, use, "[3]"},
		"on the host":       {off, 5, at("a"), "[2]"},
		"off on the host":   {off, 4, at("a"), ""},
		"another host":      {off, 4, at("b"), "[3]"},
		"no such host":      {off, 4, at("c"), ""},
		"another subject":   {off, 5, api.Fact{Subject: "ssh", Kind: api.FindUse, Use: md5}, ""},
		"through a machine": {named, 9, at("b"), "[0 1 2]"},
		"number":            {named, 9, api.Fact{Subject: "tls", Kind: api.FindLeast, Number: 1, Text: "b"}, "[2]"},
		"other number":      {named, 9, api.Fact{Subject: "tls", Kind: api.FindLeast, Number: 2, Text: "b"}, ""},
	} {
		ok, e := exposure.Holds(x.l, 2, x.day, 9, x.f)
		why, g := exposure.Explain(x.l, 2, x.day, 9, x.f)
		if ok != (x.why != "") || e != api.OK || ok && (fmt.Sprint(why) != x.why || g != api.OK) || !ok && g != api.ErrNone {
			t.Errorf("%s: %v, %v, %v, %v", name, ok, e, why, g)
		}
	}
}

// What Explain returns says the fact, and says it no more without any one of them.
func TestExplainIsLeast(t *testing.T) {
	r := rand.New(rand.NewSource(16))
	for range 300 {
		var some []api.Finding
		for range 10 {
			some = append(some, f(string(rune('a'+r.Intn(2))), r.Intn(3), r.Intn(8), []int{api.FindUse, api.FindUse, api.FindOff}[r.Intn(3)], md5, 0))
		}
		l := norm(some...)
		fact := api.Fact{Subject: "tls", Kind: api.FindUse, Use: md5, Text: []string{"", "a"}[r.Intn(2)]}
		why, e := exposure.Explain(l, 2, 6, 4, fact)
		if e == api.ErrNone {
			continue
		}
		if ok, _ := exposure.Holds(pick(l, why), 2, 6, 4, fact); !ok {
			t.Fatalf("%v: %v", l, why)
		}
		for i := range why {
			if ok, _ := exposure.Holds(pick(l, slices.Delete(slices.Clone(why), i, i+1)), 2, 6, 4, fact); ok {
				t.Fatalf("%v: %v without %d", l, why, i)
			}
		}
	}
}

func TestExplainMany(t *testing.T) {
	var some []api.Finding
	for i := range 400 {
		some = append(some, f(fmt.Sprint("h", i), 0, 3, api.FindUse, md5, 0))
	}
	if why, e := exposure.Explain(norm(some...), 0, 3, 0, api.Fact{Subject: "tls", Kind: api.FindUse, Use: md5}); len(why) != 1 || e != api.OK {
		t.Error(why, e)
	}
}

func TestFirstDay(t *testing.T) {
	l := norm(f("a", 1, 0, api.FindUse, md5, 0))
	fact := api.Fact{Subject: "tls", Kind: api.FindUse, Use: md5}
	ok, e := exposure.Holds(l, 0, 0, 0, fact)
	why, g := exposure.Explain(l, 0, 0, 0, fact)
	if !ok || fmt.Sprint(why) != "[0]" || e != api.OK || g != api.OK {
		t.Error(ok, why, e, g)
	}
	if risks, e := exposure.Risks(estate(), api.Policy{}, nil, api.Owners{}, 0, 0); fmt.Sprint(risks) != "[{1 0 0} {1 1 0}]" || e != api.OK {
		t.Error(risks, e)
	}
}
