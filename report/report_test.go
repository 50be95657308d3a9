package report_test

import (
	"strings"
	"testing"

	"cipherplan/api"
	"cipherplan/certificate"
	"cipherplan/exposure"
	"cipherplan/finding"
	"cipherplan/report"
	"cipherplan/rule"
)

var (
	rsa = api.Use{Alg: api.RSA, Bits: 2048}
	md5 = api.Use{Alg: api.MD5}
)

func estate() api.Estate {
	c, _ := certificate.Sign(api.Certificate{Issuer: "root", Subject: "web", Key: rsa, KeyId: 1, Hash: api.Use{Alg: api.SHA256}, From: 10, To: 20, Names: []string{"web"}}, 9)
	app := api.Endpoint{Name: "app", Least: 1, Most: 3, Suites: []int{10, 2}, Anchors: []int{9}, Hashes: []int{3}, Fallback: true}
	web := api.Endpoint{Name: "web", Least: 1, Most: 3, Suites: []int{10, 2}, Identities: []api.Identity{{Key: rsa, KeyId: 1, Chain: []api.Certificate{c}}}}
	item := api.Item{Name: "log", Kind: api.ItemSigned, Purpose: api.PurposeSign, Links: []api.Link{{Use: md5, Day: 1}}, Until: 15}
	other := item
	other.Name = "tax"
	return api.Estate{Endpoints: []api.Endpoint{app, web}, Edges: []api.Edge{{Client: 0, Server: 1}, {Client: 1, Server: 0}}, Items: []api.Item{item, item, other}}
}

func bad() api.Estate {
	e := estate()
	e.Edges[0].Client = 9
	return e
}

func TestRiskAndParse(t *testing.T) {
	for want, r := range map[string]api.Risk{
		"broken app web\n": {Kind: api.RiskBroken}, "broken web app\n": {Kind: api.RiskBroken, Index: 1}, "open app web rsa-rc4-sha\n": {Kind: api.RiskOpen, Suite: 2},
		"down web app mlkem-aes256-gcm\n": {Kind: api.RiskDown, Index: 1, Suite: 16}, "item log\n": {Kind: api.RiskItem}, "item tax\n": {Kind: api.RiskItem, Index: 2},
	} {
		if s, e := report.Risk(estate(), r); s != want || e != api.OK {
			t.Errorf("%v: %q, %v", r, s, e)
		}
		if p, e := report.Parse(estate(), want); p != r || e != api.OK {
			t.Errorf("%q: %v, %v", want, p, e)
		}
	}
	if s, e := report.Risk(estate(), api.Risk{Kind: api.RiskItem, Index: 1}); s != "item log\n" || e != api.OK {
		t.Error(s, e)
	}
	for _, r := range []api.Risk{{}, {Kind: 5}, {Kind: -1}, {Kind: 1, Index: 2}, {Kind: 1, Index: -1}, {Kind: 1, Suite: 1}, {Kind: 2}, {Kind: 2, Suite: 17}, {Kind: 3, Suite: -1}, {Kind: 3, Index: 2, Suite: 1}, {Kind: 4, Index: 3}, {Kind: 4, Suite: 1}, {Kind: 4, Index: -1}} {
		if s, e := report.Risk(estate(), r); s != "" || e != api.ErrRange {
			t.Errorf("%v: %q, %v", r, s, e)
		}
	}
	for _, s := range []string{"", "\n", "broken app web", "broken  app web\n", "broken app db\n", "broken app web 5\n", "open app web\n", "open app web chacha", "item x\n", "item log\nitem log\n", " item log\n"} {
		if r, e := report.Parse(estate(), s); r != (api.Risk{}) || e != api.ErrLine {
			t.Errorf("%q: %v, %v", s, r, e)
		}
	}
	if s, e := report.Risk(bad(), api.Risk{}); s != "" || e != api.ErrEstate {
		t.Error(s, e)
	}
	if r, e := report.Parse(bad(), ""); r != (api.Risk{}) || e != api.ErrEstate {
		t.Error(r, e)
	}
}

func f(kind int, u api.Use, number int, text string) api.Finding {
	return api.Finding{Source: 7, Host: "web", Machine: 5, Day: 3, Confidence: 90, Kind: kind, Subject: "tls", Use: u, Number: number, Text: text}
}

func TestFinding(t *testing.T) {
	none := api.Use{}
	for want, x := range map[string]api.Finding{
		"3 web 5 tls use md5 90\n": f(api.FindUse, md5, 0, ""), "3 web 5 tls off rsa-2048 90\n": f(api.FindOff, rsa, 0, ""), "3 web 5 tls suite 10 90\n": f(api.FindSuite, none, 10, ""), "3 web 5 tls key rsa-2048 7 90\n": f(api.FindKey, rsa, 7, ""),
		"3 web 5 tls most 4 90\n": f(api.FindMost, none, 4, ""), "3 web 5 tls least 1 90\n": f(api.FindLeast, none, 1, ""), "3 web 5 tls trust 9 90\n": f(api.FindTrust, none, 9, ""), "3 web 5 tls peer db 90\n": f(api.FindPeer, none, 0, "db"),
	} {
		if s, e := report.Finding(x); s != want || e != api.OK {
			t.Errorf("%v: %q, %v", x, s, e)
		}
	}
	if s, e := report.Finding(f(0, md5, 0, "")); s != "" || e != api.ErrFinding {
		t.Error(s, e)
	}
}

func TestWhy(t *testing.T) {
	l, _ := finding.Norm([]api.Finding{f(api.FindUse, md5, 0, ""), f(api.FindMost, api.Use{}, 3, "")})
	fact := api.Fact{Subject: "tls", Kind: api.FindUse, Use: md5, Text: "web"}
	if s, e := report.Why(l, 0, 4, 9, fact); s != "3 web 5 tls use md5 90\n" || e != api.OK {
		t.Errorf("%q, %v", s, e)
	}
	for _, x := range []struct {
		l        []api.Finding
		gap, day int
		e        api.Errno
	}{{append(l, l...), -1, 4, api.ErrFinding}, {l, -1, 4, api.ErrRange}, {l, 0, 2, api.ErrNone}} {
		if s, e := report.Why(x.l, x.gap, x.day, 9, fact); s != "" || e != x.e {
			t.Error(s, e)
		}
	}
}

func TestAll(t *testing.T) {
	p, _, _ := rule.Parse("forbid rc4\nforbid md5 from 12")
	s, e := report.All(estate(), p, nil, api.Owners{}, 15, 0)
	if s != "down app web rsa-rc4-sha\ndown app web rsa-rc4-sha\nbroken web app\nitem log\nitem log\nitem tax\n" || e != api.OK {
		t.Errorf("%q, %v", s, e)
	}
	risks, _ := exposure.Risks(estate(), p, nil, api.Owners{}, 15, 0)
	if strings.Count(s, "\n") != len(risks) {
		t.Error(risks)
	}
	if s, e := report.All(estate(), api.Policy{}, nil, api.Owners{}, -1, 0); s != "" || e != api.ErrRange {
		t.Error(s, e)
	}
	if s, e := report.All(bad(), p, nil, api.Owners{}, 15, 0); s != "" || e != api.ErrEstate {
		t.Error(s, e)
	}
}

func TestChanges(t *testing.T) {
	var p api.Plan
	for kind := 1; kind <= 12; kind++ {
		c := api.Change{Endpoint: kind % 2, Kind: kind, Number: kind * 2}
		if kind == api.AddIdentity {
			c.Number, c.Identity.KeyId = 0, 77
		}
		p.Changes, p.Days = append(p.Changes, c), append(p.Days, 30-kind/6)
	}
	want := "28 app order 24\n29 app drop-identity 12\n29 web add-anchor 14\n29 app drop-anchor 16\n29 web add-hash 18\n29 app drop-hash 20\n29 web fallback 22\n30 web add-suite 2\n30 app drop-suite 4\n30 web most 6\n30 app least 8\n30 web add-identity 77\n"
	if s, e := report.Changes(estate(), p); s != want || e != api.OK {
		t.Errorf("%s, %v", s, e)
	}
	if s, e := report.Changes(estate(), api.Plan{}); s != "" || e != api.OK {
		t.Error(s, e)
	}
	for _, x := range []struct {
		e    api.Estate
		p    api.Plan
		want api.Errno
	}{{bad(), api.Plan{Days: []int{1}}, api.ErrEstate}, {estate(), api.Plan{Days: []int{1}}, api.ErrPlan}, {estate(), api.Plan{Changes: []api.Change{{Endpoint: 2, Kind: 1}}, Days: []int{1}}, api.ErrPlan}, {estate(), api.Plan{Changes: []api.Change{{Kind: 13}}, Days: []int{1}}, api.ErrPlan}, {estate(), api.Plan{Changes: []api.Change{{}}, Days: []int{1}}, api.ErrPlan}, {estate(), api.Plan{Changes: make([]api.Change, 25), Days: make([]int, 25)}, api.ErrPlan}} {
		if s, e := report.Changes(x.e, x.p); s != "" || e != x.want {
			t.Error(s, e)
		}
	}
}

func TestMostChanges(t *testing.T) {
	p := api.Plan{Days: make([]int, 24)}
	for range 24 {
		p.Changes = append(p.Changes, api.Change{Kind: api.AddAnchor})
	}
	if s, e := report.Changes(estate(), p); strings.Count(s, "\n") != 24 || e != api.OK {
		t.Error(s, e)
	}
}
