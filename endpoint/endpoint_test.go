package endpoint_test

import (
	"fmt"
	"slices"
	"strings"
	"testing"

	"cipherplan/api"
	"cipherplan/blocks"
	"cipherplan/endpoint"
	"cipherplan/settings"
)

var rsa = api.Use{Alg: api.RSA, Bits: 2048}

func cert(key int) api.Certificate {
	return api.Certificate{Issuer: "root", Subject: "web", Key: rsa, KeyId: key, Hash: api.Use{Alg: api.SHA256}, From: 1, To: 9, Names: []string{"web"}}
}

func store() []api.Entry {
	return []api.Entry{{Alias: "a", Key: rsa, KeyId: 1, Chain: []api.Certificate{cert(1), cert(2)}}, {Alias: "b", Key: api.Use{Alg: api.ED25519}, KeyId: 2}}
}

func full() api.Endpoint {
	return api.Endpoint{Name: "web", Least: 2, Most: 3, Suites: []int{10, 15, 1}, OwnOrder: true, Identities: []api.Identity{{Key: rsa, KeyId: 1, Chain: []api.Certificate{cert(1), cert(2)}}, {Key: api.Use{Alg: api.ED25519}, KeyId: 2}}, Anchors: []int{0, 7, api.MaxKey}, Hashes: []int{1, 3}, Fallback: true}
}

func TestCheck(t *testing.T) {
	for name, x := range map[string]struct {
		change func(*api.Endpoint)
		ok     bool
	}{
		"good":           {func(e *api.Endpoint) {}, true},
		"empty lists":    {func(e *api.Endpoint) { *e = api.Endpoint{Name: "a", Least: 1, Most: 4} }, true},
		"name":           {func(e *api.Endpoint) { e.Name = "a:b" }, false},
		"least":          {func(e *api.Endpoint) { e.Least = 0 }, false},
		"most":           {func(e *api.Endpoint) { e.Most = 5 }, false},
		"least and most": {func(e *api.Endpoint) { e.Least, e.Most = 3, 2 }, false},
		"suite":          {func(e *api.Endpoint) { e.Suites[0] = 17 }, false},
		"suite twice":    {func(e *api.Endpoint) { e.Suites[0] = 1 }, false},
		"key":            {func(e *api.Endpoint) { e.Identities[0].Key.Bits = 1 }, false},
		"other key":      {func(e *api.Endpoint) { e.Identities[0].KeyId = 9 }, false},
		"key id":         {func(e *api.Endpoint) { e.Identities[1].KeyId = -1 }, false},
		"certificate":    {func(e *api.Endpoint) { e.Identities[0].Chain[1].Issuer = "" }, false},
		"nine":           {func(e *api.Endpoint) { e.Identities[0].Chain = slices.Repeat([]api.Certificate{cert(1)}, 9) }, false},
		"eight":          {func(e *api.Endpoint) { e.Identities[0].Chain = slices.Repeat([]api.Certificate{cert(1)}, 8) }, true},
		"five":           {func(e *api.Endpoint) { e.Identities = slices.Repeat(e.Identities[:1], 5) }, false},
		"four":           {func(e *api.Endpoint) { e.Identities = slices.Repeat(e.Identities[:1], 4) }, true},
		"anchor":         {func(e *api.Endpoint) { e.Anchors[2]++ }, false},
		"anchor twice":   {func(e *api.Endpoint) { e.Anchors[0] = 7 }, false},
		"16 anchors":     {func(e *api.Endpoint) { e.Anchors = upTo(16) }, true},
		"17 anchors":     {func(e *api.Endpoint) { e.Anchors = upTo(17) }, false},
		"hash":           {func(e *api.Endpoint) { e.Hashes[1] = api.RSA }, false},
		"hash order":     {func(e *api.Endpoint) { e.Hashes[0] = 4 }, false},
	} {
		e := full()
		if x.change(&e); (endpoint.Check(e) == api.OK) != x.ok || !x.ok && endpoint.Check(e) != api.ErrEndpoint {
			t.Errorf("%s: %v", name, endpoint.Check(e))
		}
	}
}

func upTo(n int) []int {
	var l []int
	for i := range n {
		l = append(l, i)
	}
	return l
}

func TestSame(t *testing.T) {
	for i, change := range []func(*api.Endpoint){
		func(e *api.Endpoint) { e.Name = "x" }, func(e *api.Endpoint) { e.Least++ }, func(e *api.Endpoint) { e.Most++ }, func(e *api.Endpoint) { e.Suites = e.Suites[:2] },
		func(e *api.Endpoint) { e.OwnOrder = false }, func(e *api.Endpoint) { e.Identities[1].KeyId++ }, func(e *api.Endpoint) { e.Identities[0].Chain[1].Serial++ },
		func(e *api.Endpoint) { e.Anchors[0]++ }, func(e *api.Endpoint) { e.Hashes = nil }, func(e *api.Endpoint) { e.Fallback = false }, func(e *api.Endpoint) { e.Identities[0].Key.Bits++ },
	} {
		e := full()
		if change(&e); endpoint.Same(e, full()) {
			t.Errorf("%d", i)
		}
	}
	if !endpoint.Same(full(), full()) {
		t.Error("equal ones")
	}
}

func TestBothDialects(t *testing.T) {
	for _, e := range []api.Endpoint{full(), {Name: "x.y", Least: 1, Most: 4, Suites: []int{16}}} {
		aliases := []string{"a", "b"}[:len(e.Identities)]
		s, err := endpoint.ToSettings(e, aliases)
		text, err2 := settings.Print(s)
		l, _, err3 := settings.Parse(text)
		f, n, err4 := endpoint.FromSettings(l, e.Name, store())
		if err != 0 || err2 != 0 || err3 != 0 || err4 != 0 || n != 0 || !endpoint.Same(e, f) {
			t.Errorf("%q: %v, %d", text, f, n)
		}
		b, err := endpoint.ToBlocks(e, aliases)
		text, err2 = blocks.Print(b)
		m, _, err3 := blocks.Parse(text)
		f, n, err4 = endpoint.FromBlocks(m, e.Name, store())
		if err != 0 || err2 != 0 || err3 != 0 || err4 != 0 || n != 0 || !endpoint.Same(e, f) {
			t.Errorf("%q: %v, %d", text, f, n)
		}
	}
	s, _ := endpoint.ToSettings(full(), []string{"a", "b"})
	want := "[{web least 2 0} {web most 3 0} {web suites ecdhe-rsa-aes128-gcm:chacha+v4:rsa-rc4-md5 0} {web order own 0} {web keys a b 0} {web anchors 0 7 2147483648 0} {web hashes md5 sha256 0} {web fallback yes 0}]"
	if fmt.Sprint(s) != want {
		t.Errorf("%v", s)
	}
	b, _ := endpoint.ToBlocks(api.Endpoint{Name: "x", Least: 1, Most: 4}, nil)
	text, _ := blocks.Print(b)
	if text != "server x {\n  least 1;\n  most 4;\n  suites \"\";\n  order client;\n  fallback no;\n}\n" {
		t.Errorf("%s", text)
	}
}

func TestWriteErrors(t *testing.T) {
	bad := full()
	bad.Least = 0
	none := api.Endpoint{Name: "x", Least: 1, Most: 4}
	for name, x := range map[string]struct {
		e       api.Endpoint
		aliases []string
		s, b    api.Errno
	}{
		"endpoint":  {bad, nil, api.ErrEndpoint, api.ErrEndpoint},
		"one alias": {full(), []string{"a"}, api.ErrValue, api.ErrValue},
		"no name":   {full(), []string{"a", "a b"}, api.ErrValue, api.ErrValue},
		"no suites": {none, nil, api.ErrValue, api.OK},
	} {
		s, e := endpoint.ToSettings(x.e, x.aliases)
		b, f := endpoint.ToBlocks(x.e, x.aliases)
		if e != x.s || f != x.b || s != nil || f != api.OK && b != nil {
			t.Errorf("%s: %v, %v", name, e, f)
		}
	}
}

func TestFromSettings(t *testing.T) {
	five := "keys = a a a a a\n"
	for text, x := range map[string]struct {
		name string
		line int
		e    api.Errno
	}{
		"[web]\nmost = 3\nsuites = high:!rsa":        {"web", 0, api.OK},
		"[a b]":                                      {"a b", 0, api.ErrName},
		"most = 3\n[db]\nleast = 1":                  {"web", 0, api.ErrNone},
		"[web]\nmost = 9\nMost = 3":                  {"web", 3, api.ErrWord},
		"[db]\nx = 1\n[web]\ny = 1\n[db]\n":          {"web", 4, api.ErrWord},
		"[web]\nmost = 5":                            {"web", 2, api.ErrValue},
		"[web]\nmost = 5\nmost = 3":                  {"web", 0, api.OK},
		"[web]\nmost = 04":                           {"web", 2, api.ErrValue},
		"[web]\nmost =":                              {"web", 2, api.ErrValue},
		"[web]\nsuites = x":                          {"web", 2, api.ErrValue},
		"[web]\norder = client\nfallback = maybe":    {"web", 3, api.ErrValue},
		"[web]\norder = both\nfallback = maybe":      {"web", 2, api.ErrValue},
		"[web]\nkeys = a c":                          {"web", 2, api.ErrValue},
		"[web]\nkeys = a   b a\nkeys = \nkeys = b a": {"web", 0, api.OK},
		"[web]\n" + five:                             {"web", 2, api.ErrValue},
		"[web]\nanchors = 5 3\nhashes = sha256 md5":  {"web", 0, api.OK},
		"[web]\nanchors = 5 5":                       {"web", 2, api.ErrValue},
		"[web]\nanchors = 05":                        {"web", 2, api.ErrValue},
		"[web]\nhashes = md5 md5":                    {"web", 2, api.ErrValue},
		"[web]\nhashes = rsa":                        {"web", 2, api.ErrValue},
		"[web]\nleast = 3\nmost = 2":                 {"web", 0, api.ErrEndpoint},
		"[web]\nanchors = " + strings.TrimSpace(strings.Repeat("1 ", 17)): {"web", 2, api.ErrValue},
	} {
		l, _, err := settings.Parse(text)
		if x.name != "a b" && err != api.OK {
			t.Fatalf("%q: %v", text, err)
		}
		e, n, err := endpoint.FromSettings(l, x.name, store())
		if n != x.line || err != x.e || err != api.OK && !endpoint.Same(e, api.Endpoint{}) || err == api.OK && endpoint.Check(e) != api.OK {
			t.Errorf("%q: %v, %d, %v", text, e, n, err)
		}
	}
	if _, n, e := endpoint.FromSettings(nil, "web", []api.Entry{{}}); n != 0 || e != api.ErrKeystore {
		t.Error(n, e)
	}
	l, _, _ := settings.Parse("[web]\nfallback = no")
	e, _, _ := endpoint.FromSettings(l, "web", nil)
	if !endpoint.Same(e, api.Endpoint{Name: "web", Least: 1, Most: 4, Suites: []int{1, 2, 3, 4, 5, 6, 7, 8, 9, 10, 11, 12, 13, 14, 15, 16}}) {
		t.Errorf("%v", e)
	}
	l, _, _ = settings.Parse("[web]\nanchors = 5 3\nhashes = sha256 md5\nkeys = b a b\nsuites =")
	e, _, _ = endpoint.FromSettings(l, "web", store())
	if !slices.Equal(e.Anchors, []int{3, 5}) || !slices.Equal(e.Hashes, []int{1, 3}) || len(e.Identities) != 3 || e.Identities[0].KeyId != 2 || len(e.Suites) != 0 {
		t.Errorf("%v", e)
	}
}

func TestFromBlocks(t *testing.T) {
	for text, x := range map[string]struct {
		name string
		line int
		e    api.Errno
	}{
		"server web { most 3; suites high:!rsa; keys a b; anchors 5 3; hashes; }": {"web", 0, api.OK},
		"server web {}": {"web", 0, api.OK},
		"server web; server web {\n} server web {\nx; }": {"web", 0, api.OK},
		"server web { x; }":                                  {"a b", 0, api.ErrName},
		"server web; server web x {} client web {}":          {"web", 0, api.ErrNone},
		"server web {\nmost 9;\nmost 3;\nx; }":               {"web", 4, api.ErrWord},
		"server web {\nmost 9;\nmost {}\nx; }":               {"web", 3, api.ErrWord},
		"server web {\nmost 9;\nleast 9;\nmost 3;\nmost 2;}": {"web", 4, api.ErrTwice},
		"server web {\nleast 1; most 1 2;}":                  {"web", 2, api.ErrValue},
		"server web {\nmost;}":                               {"web", 2, api.ErrValue},
		"server web {\nsuites all rsa;}":                     {"web", 2, api.ErrValue},
		"server web {\n\norder own client;}":                 {"web", 3, api.ErrValue},
		"server web {\nfallback;}":                           {"web", 2, api.ErrValue},
		"server web {\nkeys a a a a a;}":                     {"web", 2, api.ErrValue},
		"server web {\nkeys \"a b\";}":                       {"web", 2, api.ErrValue},
		"server web {\nleast 4; most 3;}":                    {"web", 0, api.ErrEndpoint},
	} {
		l, _, err := blocks.Parse(text)
		if err != api.OK {
			t.Fatalf("%q: %v", text, err)
		}
		e, n, err := endpoint.FromBlocks(l, x.name, store())
		if n != x.line || err != x.e || err != api.OK && !endpoint.Same(e, api.Endpoint{}) || err == api.OK && endpoint.Check(e) != api.OK {
			t.Errorf("%q: %v, %d, %v", text, e, n, err)
		}
	}
	if _, n, e := endpoint.FromBlocks(nil, "web", []api.Entry{{}}); n != 0 || e != api.ErrKeystore {
		t.Error(n, e)
	}
}

func TestOwnMemory(t *testing.T) {
	s := store()
	e, _, _ := endpoint.FromBlocks([]api.Block{{Words: []string{"server", "web"}, Open: true, Within: []api.Block{{Words: []string{"keys", "a", "a"}}}}}, "web", s)
	e.Identities[0].Chain[0].Names[0] = "x"
	if s[0].Chain[0].Names[0] != "web" || e.Identities[1].Chain[0].Names[0] != "web" {
		t.Error("memory is shared")
	}
}

func TestJustPermitted(t *testing.T) {
	l, _, _ := settings.Parse("[web]\nleast = 2\nmost = 2\nkeys = a a a b\nanchors = 0 1 2 3 4 5 6 7 8 9 10 11 12 13 14 15\n")
	e, n, err := endpoint.FromSettings(l, "web", store())
	if len(e.Identities) != 4 || len(e.Anchors) != 16 || e.Least != 2 || n != 0 || err != api.OK || endpoint.Check(e) != api.OK {
		t.Error(e, n, err)
	}
	one := full()
	one.Identities, one.Anchors, one.Hashes = one.Identities[:1], []int{7}, []int{3}
	s, _ := endpoint.ToSettings(one, []string{"a"})
	if f, _, err := endpoint.FromSettings(s, "web", store()); !endpoint.Same(f, one) || err != api.OK {
		t.Error(f, err)
	}
}
