package change_test

import (
	"fmt"
	"math/rand"
	"testing"

	"cipherplan/api"
	"cipherplan/change"
	"cipherplan/endpoint"
)

var (
	rsa = api.Identity{Key: api.Use{Alg: api.RSA, Bits: 2048}, KeyId: 1}
	ed  = api.Identity{Key: api.Use{Alg: api.ED25519}, KeyId: 2}
)

func web() api.Endpoint {
	c := api.Certificate{Issuer: "root", Subject: "web", Key: rsa.Key, KeyId: 1, Hash: api.Use{Alg: api.SHA256}, From: 1, To: 9, Names: []string{"web"}}
	i := rsa
	i.Chain = []api.Certificate{c}
	return api.Endpoint{Name: "web", Least: 2, Most: 3, Suites: []int{10, 8, 2}, Identities: []api.Identity{i}, Anchors: []int{3, 7}, Hashes: []int{2, 4}}
}

func TestApplyAndInverse(t *testing.T) {
	for name, x := range map[string]struct {
		c       api.Change
		want    func(e *api.Endpoint)
		inverse api.Change
		widens  bool
	}{
		"add suite":     {api.Change{Kind: api.AddSuite, Number: 1, At: 3}, func(e *api.Endpoint) { e.Suites = []int{10, 8, 2, 1} }, api.Change{Kind: api.DropSuite, Number: 1}, true},
		"first suite":   {api.Change{Kind: api.AddSuite, Number: 1}, func(e *api.Endpoint) { e.Suites = []int{1, 10, 8, 2} }, api.Change{Kind: api.DropSuite, Number: 1}, true},
		"drop suite":    {api.Change{Kind: api.DropSuite, Number: 8}, func(e *api.Endpoint) { e.Suites = []int{10, 2} }, api.Change{Kind: api.AddSuite, Number: 8, At: 1}, false},
		"most":          {api.Change{Kind: api.SetMost, Number: 4}, func(e *api.Endpoint) { e.Most = 4 }, api.Change{Kind: api.SetMost, Number: 3}, true},
		"lesser most":   {api.Change{Kind: api.SetMost, Number: 2}, func(e *api.Endpoint) { e.Most = 2 }, api.Change{Kind: api.SetMost, Number: 3}, false},
		"least":         {api.Change{Kind: api.SetLeast, Number: 1}, func(e *api.Endpoint) { e.Least = 1 }, api.Change{Kind: api.SetLeast, Number: 2}, true},
		"greater least": {api.Change{Kind: api.SetLeast, Number: 3}, func(e *api.Endpoint) { e.Least = 3 }, api.Change{Kind: api.SetLeast, Number: 2}, false},
		"add identity":  {api.Change{Kind: api.AddIdentity, Identity: ed}, func(e *api.Endpoint) { e.Identities = []api.Identity{ed, e.Identities[0]} }, api.Change{Kind: api.DropIdentity, Number: 2}, true},
		"last identity": {api.Change{Kind: api.AddIdentity, Identity: ed, At: 1}, func(e *api.Endpoint) { e.Identities = append(e.Identities, ed) }, api.Change{Kind: api.DropIdentity, Number: 2}, true},
		"drop identity": {api.Change{Kind: api.DropIdentity, Number: 1}, func(e *api.Endpoint) { e.Identities = nil }, api.Change{Kind: api.AddIdentity, Identity: web().Identities[0]}, false},
		"add anchor":    {api.Change{Kind: api.AddAnchor, Number: 5}, func(e *api.Endpoint) { e.Anchors = []int{3, 5, 7} }, api.Change{Kind: api.DropAnchor, Number: 5}, true},
		"drop anchor":   {api.Change{Kind: api.DropAnchor, Number: 7}, func(e *api.Endpoint) { e.Anchors = []int{3} }, api.Change{Kind: api.AddAnchor, Number: 7}, false},
		"add hash":      {api.Change{Kind: api.AddHash, Number: 3}, func(e *api.Endpoint) { e.Hashes = []int{2, 3, 4} }, api.Change{Kind: api.DropHash, Number: 3}, true},
		"drop hash":     {api.Change{Kind: api.DropHash, Number: 2}, func(e *api.Endpoint) { e.Hashes = []int{4} }, api.Change{Kind: api.AddHash, Number: 2}, false},
		"fallback":      {api.Change{Kind: api.SetFallback, Number: 1}, func(e *api.Endpoint) { e.Fallback = true }, api.Change{Kind: api.SetFallback}, true},
		"order":         {api.Change{Kind: api.SetOrder, Number: 1}, func(e *api.Endpoint) { e.OwnOrder = true }, api.Change{Kind: api.SetOrder}, false},
	} {
		x.c.Endpoint, x.inverse.Endpoint = 77, 77
		want := web()
		x.want(&want)
		got, e := change.Apply(web(), x.c)
		if !endpoint.Same(got, want) || e != api.OK || change.Check(web(), x.c) != api.OK {
			t.Errorf("%s: %v, %v", name, got, e)
		}
		back, e := change.Inverse(web(), x.c)
		if !change.Same(back, x.inverse) || e != api.OK {
			t.Errorf("%s: %v, %v", name, back, e)
		}
		if again, e := change.Apply(got, back); !endpoint.Same(again, web()) || e != api.OK {
			t.Errorf("%s: %v, %v", name, again, e)
		}
		if change.Widens(web(), x.c) != x.widens || x.c.Kind != api.SetOrder && change.Widens(got, back) == x.widens {
			t.Errorf("%s: widens", name)
		}
	}
}

func TestErrors(t *testing.T) {
	full := web()
	for i := range 3 {
		full.Identities = append(full.Identities, api.Identity{Key: ed.Key, KeyId: 10 + i})
	}
	twice := web()
	twice.Identities = append(twice.Identities, ed, ed)
	odd := ed
	odd.Key.Bits = 1
	for name, x := range map[string]struct {
		e    api.Endpoint
		c    api.Change
		want api.Errno
	}{
		"endpoint":         {api.Endpoint{}, api.Change{}, api.ErrEndpoint},
		"kind 0":           {web(), api.Change{}, api.ErrChange},
		"kind 13":          {web(), api.Change{Kind: 13}, api.ErrChange},
		"negative kind":    {web(), api.Change{Kind: -1}, api.ErrChange},
		"at":               {web(), api.Change{Kind: api.DropSuite, Number: 99, At: 1}, api.ErrChange},
		"number":           {web(), api.Change{Kind: api.AddIdentity, Number: 1, At: 9, Identity: ed}, api.ErrChange},
		"identity's key":   {web(), api.Change{Kind: api.AddSuite, At: 9, Identity: api.Identity{Key: ed.Key}}, api.ErrChange},
		"identity's id":    {web(), api.Change{Kind: api.SetFallback, Number: 7, Identity: api.Identity{KeyId: 1}}, api.ErrChange},
		"identity's chain": {web(), api.Change{Kind: api.SetMost, Number: 4, Identity: api.Identity{Chain: web().Identities[0].Chain}}, api.ErrChange},
		"far":              {web(), api.Change{Kind: api.AddSuite, Number: 10, At: 4}, api.ErrRange},
		"before":           {web(), api.Change{Kind: api.AddSuite, Number: 99, At: -1}, api.ErrRange},
		"far identity":     {web(), api.Change{Kind: api.AddIdentity, At: 2, Identity: rsa}, api.ErrRange},
		"fallback 2":       {web(), api.Change{Kind: api.SetFallback, Number: 2}, api.ErrRange},
		"order -1":         {web(), api.Change{Kind: api.SetOrder, Number: -1}, api.ErrRange},
		"suite there":      {web(), api.Change{Kind: api.AddSuite, Number: 8}, api.ErrDone},
		"suite not there":  {web(), api.Change{Kind: api.DropSuite, Number: 99}, api.ErrDone},
		"most":             {web(), api.Change{Kind: api.SetMost, Number: 3}, api.ErrDone},
		"least":            {web(), api.Change{Kind: api.SetLeast, Number: 2}, api.ErrDone},
		"identity there":   {web(), api.Change{Kind: api.AddIdentity, Identity: rsa}, api.ErrDone},
		"no identity":      {web(), api.Change{Kind: api.DropIdentity, Number: 2}, api.ErrDone},
		"anchor":           {web(), api.Change{Kind: api.AddAnchor, Number: 7}, api.ErrDone},
		"no anchor":        {web(), api.Change{Kind: api.DropAnchor, Number: 8}, api.ErrDone},
		"hash":             {web(), api.Change{Kind: api.AddHash, Number: 4}, api.ErrDone},
		"no hash":          {web(), api.Change{Kind: api.DropHash, Number: 3}, api.ErrDone},
		"fallback":         {web(), api.Change{Kind: api.SetFallback}, api.ErrDone},
		"order":            {web(), api.Change{Kind: api.SetOrder}, api.ErrDone},
		"twice":            {twice, api.Change{Kind: api.DropIdentity, Number: 2}, api.ErrTwice},
		"no suite":         {web(), api.Change{Kind: api.AddSuite, Number: 17}, api.ErrValue},
		"most 5":           {web(), api.Change{Kind: api.SetMost, Number: 5}, api.ErrValue},
		"most below least": {web(), api.Change{Kind: api.SetMost, Number: 1}, api.ErrValue},
		"least over most":  {web(), api.Change{Kind: api.SetLeast, Number: 4}, api.ErrValue},
		"no key":           {web(), api.Change{Kind: api.AddIdentity, Identity: odd}, api.ErrValue},
		"five identities":  {full, api.Change{Kind: api.AddIdentity, Identity: ed}, api.ErrValue},
		"great anchor":     {web(), api.Change{Kind: api.AddAnchor, Number: api.MaxKey + 1}, api.ErrValue},
		"negative anchor":  {web(), api.Change{Kind: api.AddAnchor, Number: -1}, api.ErrValue},
		"no hash at all":   {web(), api.Change{Kind: api.AddHash, Number: api.RSA}, api.ErrValue},
	} {
		got, e := change.Apply(x.e, x.c)
		back, f := change.Inverse(x.e, x.c)
		if c := change.Check(x.e, x.c); e != x.want || f != x.want || c != x.want || got.Name != "" || !change.Same(back, api.Change{}) || change.Widens(x.e, x.c) {
			t.Errorf("%s: %v, %v, %v", name, e, f, c)
		}
	}
}

func TestOwnMemory(t *testing.T) {
	e := web()
	c := api.Change{Kind: api.AddIdentity, Identity: api.Identity{Key: rsa.Key, KeyId: 1, Chain: web().Identities[0].Chain}}
	e.Identities = []api.Identity{}
	got, _ := change.Apply(e, c)
	got.Identities[0].Chain[0].Names[0], got.Suites[0] = "x", 1
	if c.Identity.Chain[0].Names[0] != "web" || e.Suites[0] != 10 {
		t.Error("memory is shared")
	}
	e = web()
	back, _ := change.Inverse(e, api.Change{Kind: api.DropIdentity, Number: 1})
	back.Identity.Chain[0].Names[0] = "x"
	if e.Identities[0].Chain[0].Names[0] != "web" {
		t.Error("memory is shared")
	}
}

func TestSame(t *testing.T) {
	a := api.Change{Endpoint: 1, Kind: 5, At: 2, Identity: web().Identities[0]}
	for i, alter := range []func(c *api.Change){
		func(c *api.Change) { c.Endpoint++ }, func(c *api.Change) { c.Kind++ }, func(c *api.Change) { c.Number++ }, func(c *api.Change) { c.At++ },
		func(c *api.Change) { c.Identity.KeyId++ }, func(c *api.Change) { c.Identity.Key.Bits++ }, func(c *api.Change) { c.Identity.Chain = nil },
	} {
		b := a
		if alter(&b); change.Same(a, b) {
			t.Errorf("%d", i)
		}
	}
	if !change.Same(a, a) {
		t.Error("equal ones")
	}
}

// Whatever is done leads back.
func TestRandom(t *testing.T) {
	r := rand.New(rand.NewSource(17))
	done := 0
	e := web()
	for range 20000 {
		c := api.Change{Kind: 1 + r.Intn(12), Number: r.Intn(9)}
		switch c.Kind {
		case api.AddSuite:
			c.At = r.Intn(4)
		case api.AddIdentity:
			c.Number, c.At, c.Identity = 0, r.Intn(3), api.Identity{Key: ed.Key, KeyId: r.Intn(9)}
		}
		next, err := change.Apply(e, c)
		if err != api.OK {
			continue
		}
		done++
		back, _ := change.Inverse(e, c)
		if again, err := change.Apply(next, back); err != api.OK || !endpoint.Same(again, e) {
			t.Fatalf("%v, %v: %v, %v", e, c, back, err)
		}
		e = next
	}
	if done < 1000 {
		t.Error(fmt.Sprint(done))
	}
}
