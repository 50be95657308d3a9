package exposure_test

import (
	"fmt"
	"slices"
	"testing"

	"cipherplan/api"
	"cipherplan/blocks"
	"cipherplan/certificate"
	"cipherplan/downgrade"
	"cipherplan/endpoint"
	"cipherplan/exception"
	"cipherplan/executable"
	"cipherplan/exposure"
	"cipherplan/finding"
	"cipherplan/handshake"
	"cipherplan/identity"
	"cipherplan/keystore"
	"cipherplan/negotiate"
	"cipherplan/rule"
	"cipherplan/settings"
	"cipherplan/suitespec"
	"cipherplan/verdict"
)

// The first 23 layers together, from files to risks: T1 to T5.

func store() []api.Entry {
	c, _ := certificate.Sign(api.Certificate{Issuer: "root", Subject: "web", Key: rsa, KeyId: 1, Hash: api.Use{Alg: api.SHA256}, From: 10, To: 90, Names: []string{"web"}}, 9)
	return []api.Entry{{Alias: "k", Key: rsa, KeyId: 1, Secret: true, Chain: []api.Certificate{c}}}
}

func readBoth(t *testing.T) (api.Endpoint, api.Endpoint) {
	b, e := keystore.Encode(store())
	keys, f := keystore.Decode(b)
	s, _, g := settings.Parse("[app]\nsuites = ecdhe-rsa-aes128-gcm:\\\n rsa-rc4-sha\nmost = 3\nanchors = 9\nhashes = sha256\nfallback = yes\n")
	l, _, h := blocks.Parse("server web { # the server\n keys k; most 3; suites \"all:@strength\"; order own; }")
	client, _, i := endpoint.FromSettings(s, "app", nil)
	server, _, j := endpoint.FromBlocks(l, "web", keys)
	for _, e := range []api.Errno{e, f, g, h, i, j} {
		if e != api.OK {
			t.Fatal(e)
		}
	}
	return client, server
}

func TestReading(t *testing.T) {
	client, server := readBoth(t)
	for _, e := range []api.Endpoint{client, server} {
		aliases := []string{"k"}[:len(e.Identities)]
		s, _ := endpoint.ToSettings(e, aliases)
		text, _ := settings.Print(s)
		again, _, _ := settings.Parse(text)
		if x, _, err := endpoint.FromSettings(again, e.Name, store()); err != api.OK || !endpoint.Same(x, e) {
			t.Errorf("%v, %v", x, err)
		}
	}
	i := api.Image{Sections: []api.Section{{Name: "s", Bytes: []byte{1}}}, Symbols: []api.Symbol{{Name: "md5_init"}}}
	b, _ := executable.Encode(i)
	if j, e := executable.Decode(b); e != api.OK || !executable.Same(i, j) {
		t.Error(j, e)
	}
	names, _ := suitespec.Print(server.Suites)
	if l, _, e := suitespec.Parse(names); e != api.OK || !slices.Equal(l, server.Suites) {
		t.Error(l, e)
	}
	hello, _ := handshake.EncodeHello(api.Hello{Most: 3, Suites: client.Suites, Hashes: client.Hashes})
	choice, _ := handshake.EncodeChoice(api.Choice{Version: 3, Suite: 10, KeyId: 1})
	records, _ := handshake.Records(append(hello, choice...), 3)
	if h, c, e := handshake.Capture(records); e != api.OK || !slices.Equal(h.Suites, client.Suites) || c.Suite != 10 {
		t.Error(h, c, e)
	}
}

func at(host string, machine, day int) api.Finding {
	return api.Finding{Source: api.SourceSettings, Host: host, Machine: machine, Day: day, Confidence: 80, Subject: "tls"}
}

func TestFindings(t *testing.T) {
	client, server := readBoth(t)
	a, _ := finding.FromEndpoint(at("app", 1, 20), client)
	b, _ := finding.FromEndpoint(at("web", 2, 20), server)
	c, _ := finding.FromUses(at("web", 0, 21), []api.Use{{Alg: api.MD5}})
	ab, _ := finding.Merge(a, b)
	l, _ := finding.Merge(ab, c)
	turned := slices.Clone(l)
	slices.Reverse(turned)
	if m, _ := finding.Norm(append(turned, l...)); !slices.Equal(l, m) {
		t.Error("an inventory depends on an order")
	}
	p, _, _ := rule.Parse("forbid md5")
	weak, e := exposure.Weak(l, 3, 25, 30, p, api.PurposeTransport)
	if e != api.OK || len(weak) != 1 || l[weak[0].Finding].Host != "web" {
		t.Fatal(weak, e)
	}
	fact := weak[0]
	fact.Text = "web"
	before, _ := exposure.Explain(l, 3, 25, 30, fact)
	late := at("app", 1, 22)
	late.Kind, late.Number = api.FindMost, 2
	m, _ := finding.Merge(l, []api.Finding{late})
	after, _ := exposure.Explain(m, 3, 25, 30, fact)
	if len(before) != len(after) || len(before) == 0 {
		t.Fatal(before, after)
	}
	for i := range before {
		if l[before[i]] != m[after[i]] {
			t.Error("a late finding changes an explanation that it does not touch")
		}
	}
	touched, _ := identity.Touched(l, 3, late)
	if fmt.Sprint(touched) != "[0]" {
		t.Error(touched)
	}
}

func TestVerdictsAndNegotiation(t *testing.T) {
	client, server := readBoth(t)
	p, _, _ := rule.Parse("forbid rc4 from 30")
	o := api.Owners{Keys: []int{5, 6}, Need: 2}
	x, _ := exception.Sign(api.Exception{Use: api.Use{Alg: api.RC4, Bits: 128}, Purpose: api.PurposeTransport, Endpoint: "web", Days: api.Span{From: 40, To: 50}}, 5)
	x, _ = exception.Sign(x, 6)
	estate := api.Estate{Endpoints: []api.Endpoint{client, server}, Edges: []api.Edge{{Client: 0, Server: 1}}}
	for day := 10; day < 95; day++ {
		allowed, _, _ := verdict.Allowed(p, x.Use, api.PurposeTransport, day)
		excepted, _ := exception.Allowed(p, []api.Exception{x}, o, x.Use, api.PurposeTransport, "web", day)
		if allowed != (day < 30) || excepted != (day < 30 || day >= 40 && day < 50) {
			t.Errorf("day %d: %v, %v", day, allowed, excepted)
		}
		risks, e := exposure.Risks(estate, p, []api.Exception{x}, o, day, 0)
		if e != api.OK || day < 90 && (len(risks) > 0) == excepted || day >= 90 && len(risks) != 1 {
			t.Errorf("day %d: %v, %v", day, risks, e)
		}
	}
	chosen, e := negotiate.Choose(client, server, 20)
	common := negotiate.Common(client, server)
	if e != api.OK || !slices.Contains(common, chosen) {
		t.Error(chosen, e)
	}
	ways, _ := downgrade.All(client, server, 20, api.MaxStrength)
	for _, w := range ways {
		if !slices.Contains(common, w.Outcome) {
			t.Error(w)
		}
	}
}
