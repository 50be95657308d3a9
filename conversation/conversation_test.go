package conversation_test

import (
	"fmt"
	"math/rand"
	"slices"
	"testing"

	"cipherplan/api"
	"cipherplan/certificate"
	"cipherplan/conversation"
)

var rsa = api.Use{Alg: api.RSA, Bits: 2048}

func identity(u api.Use, key, from, to int) api.Identity {
	c, _ := certificate.Sign(api.Certificate{Issuer: "root", Subject: "web", Key: u, KeyId: key, Hash: api.Use{Alg: api.SHA256}, From: from, To: to, Names: []string{"web"}}, 9)
	return api.Identity{Key: u, KeyId: key, Chain: []api.Certificate{c}}
}

// estate: app and db are clients of web, app prefers ecdsa; db trusts no anchor.
func estate() api.Estate {
	app := api.Endpoint{Name: "app", Least: 1, Most: 3, Suites: []int{11, 10, 2}, Anchors: []int{9}, Hashes: []int{3}}
	db := api.Endpoint{Name: "db", Least: 2, Most: 3, Suites: []int{2}, Hashes: []int{3}}
	web := api.Endpoint{Name: "web", Least: 1, Most: 3, Suites: []int{10, 2, 11}, Identities: []api.Identity{identity(rsa, 1, 10, 30), identity(api.Use{Alg: api.ECDSA, Bits: 256}, 2, 15, 20)}}
	return api.Estate{Endpoints: []api.Endpoint{app, db, web}, Edges: []api.Edge{{Client: 0, Server: 2}, {Client: 1, Server: 2}}}
}

func bad() api.Estate {
	e := estate()
	e.Endpoints[0].Least = 0
	return e
}

func TestWorksAndAll(t *testing.T) {
	for _, x := range []struct {
		edge, day int
		want      api.Outcome
		e         api.Errno
	}{
		{0, 15, api.Outcome{Version: 3, Suite: 11}, api.OK}, {0, 14, api.Outcome{}, api.ErrTrust}, {0, 20, api.Outcome{}, api.ErrTrust}, {1, 15, api.Outcome{}, api.ErrTrust},
		{2, 15, api.Outcome{}, api.ErrNone}, {-1, -1, api.Outcome{}, api.ErrNone}, {0, -1, api.Outcome{}, api.ErrRange}, {0, 40001, api.Outcome{}, api.ErrRange},
	} {
		if o, e := conversation.Works(estate(), x.edge, x.day); o != x.want || e != x.e {
			t.Errorf("%v: %v, %v", x, o, e)
		}
	}
	if _, e := conversation.Works(bad(), 9, -1); e != api.ErrEstate {
		t.Error(e)
	}
	if l, broken, e := conversation.All(estate(), 15); fmt.Sprint(l, broken) != "[{3 11} {0 0}] [1]" || e != api.OK {
		t.Error(l, broken, e)
	}
	for _, day := range []int{-1, 40001} {
		if l, broken, e := conversation.All(estate(), day); l != nil || broken != nil || e != api.ErrRange {
			t.Error(l, broken, e)
		}
	}
	if _, _, e := conversation.All(bad(), -1); e != api.ErrEstate {
		t.Error(e)
	}
}

func TestMethods(t *testing.T) {
	for day, want := range map[int]string{15: "[{1 2} {2 2} {3 2} {3 10} {3 11}]", 20: "[{1 2} {2 2} {3 2} {3 10}]", 9: "[]", 30: "[]"} {
		if l, e := conversation.Methods(estate(), 0, day); fmt.Sprint(l) != want || e != api.OK {
			t.Errorf("%d: %v, %v", day, l, e)
		}
	}
	if l, e := conversation.Methods(estate(), 1, 15); len(l) != 0 || e != api.OK {
		t.Error(l, e)
	}
	for _, x := range []struct {
		e         api.Estate
		edge, day int
		want      api.Errno
	}{{bad(), 9, -1, api.ErrEstate}, {estate(), 2, -1, api.ErrNone}, {estate(), 0, -1, api.ErrRange}, {estate(), 0, 40001, api.ErrRange}} {
		if l, e := conversation.Methods(x.e, x.edge, x.day); l != nil || e != x.want {
			t.Error(l, e)
		}
	}
}

func TestUntilAndDuring(t *testing.T) {
	e := estate()
	for _, x := range []struct {
		edge, day, want int
		err             api.Errno
	}{{0, 15, 20, api.OK}, {0, 19, 20, api.OK}, {0, 20, 0, api.ErrTrust}, {1, 15, 0, api.ErrTrust}, {2, 15, 0, api.ErrNone}, {0, -1, 0, api.ErrRange}} {
		if day, err := conversation.Until(e, x.edge, x.day); day != x.want || err != x.err {
			t.Errorf("%v: %d, %v", x, day, err)
		}
	}
	for _, x := range []struct {
		from, to int
		want     api.Outcome
		err      api.Errno
	}{{15, 19, api.Outcome{Version: 3, Suite: 11}, api.OK}, {15, 15, api.Outcome{Version: 3, Suite: 11}, api.OK}, {15, 20, api.Outcome{}, api.ErrTrust}, {14, -1, api.Outcome{}, api.ErrTrust}, {15, -1, api.Outcome{}, api.ErrRange}, {16, 15, api.Outcome{}, api.ErrDays}} {
		if o, err := conversation.During(e, 0, x.from, x.to); o != x.want || err != x.err {
			t.Errorf("%v: %v, %v", x, o, err)
		}
	}
	if _, err := conversation.During(bad(), 0, 15, 15); err != api.ErrEstate {
		t.Error(err)
	}
	if _, err := conversation.During(e, 2, 15, 15); err != api.ErrNone {
		t.Error(err)
	}
}

func TestNeeded(t *testing.T) {
	e := estate()
	e.Endpoints[1].Suites = []int{2, 3}
	for alg, want := range map[int]string{api.RSA: "[1]", api.RC4: "[1]", api.ECDHE: "[]", api.CHACHA: "[]", api.HMACSHA1: "[1]", api.MD5: "[]"} {
		if l, err := conversation.Needed(e, alg); fmt.Sprint(l) != want || err != api.OK {
			t.Errorf("%d: %v, %v", alg, l, err)
		}
	}
	e.Endpoints[1].Suites = nil
	if l, _ := conversation.Needed(e, api.CHACHA); fmt.Sprint(l) != "[1]" {
		t.Error(l)
	}
	for _, alg := range []int{0, -1, 23} {
		if l, err := conversation.Needed(e, alg); l != nil || err != api.ErrUse {
			t.Error(l, err)
		}
	}
	if _, err := conversation.Needed(bad(), 0); err != api.ErrEstate {
		t.Error(err)
	}
}

// What works is one of Methods; what works on two days works between them, with the same outcome, and up to Until.
func TestConsequences(t *testing.T) {
	r := rand.New(rand.NewSource(19))
	for range 300 {
		e := estate()
		for i := range e.Endpoints {
			r.Shuffle(len(e.Endpoints[i].Suites), func(j, k int) {
				e.Endpoints[i].Suites[j], e.Endpoints[i].Suites[k] = e.Endpoints[i].Suites[k], e.Endpoints[i].Suites[j]
			})
		}
		e.Endpoints[2].OwnOrder, e.Endpoints[2].Most = r.Intn(2) > 0, 2+r.Intn(2)
		from := r.Intn(35)
		to := from + r.Intn(10)
		o, err := conversation.During(e, 0, from, to)
		for day := from; day <= to && err == api.OK; day++ {
			p, err := conversation.Works(e, 0, day)
			methods, _ := conversation.Methods(e, 0, day)
			if p != o || err != api.OK || !slices.Contains(methods, p) {
				t.Fatalf("%v: %v, %v on %d", e, o, p, day)
			}
		}
		if until, err := conversation.Until(e, 0, from); err == api.OK {
			_, before := conversation.Works(e, 0, until-1)
			_, on := conversation.Works(e, 0, until)
			if until <= from || before != api.OK || on == api.OK {
				t.Fatalf("%v: until %d", e, until)
			}
		}
	}
}

func TestFirstDay(t *testing.T) {
	e := estate()
	_, broken, err := conversation.All(e, 0)
	l, err2 := conversation.Methods(e, 0, 0)
	if fmt.Sprint(broken, l) != "[0 1] []" || err != api.OK || err2 != api.OK {
		t.Error(broken, l, err, err2)
	}
}
