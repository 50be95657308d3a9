package gone_test

import (
	"fmt"
	"testing"

	"cipherplan/api"
	"cipherplan/exception"
	"cipherplan/finding"
	"cipherplan/gone"
)

var (
	md5 = api.Use{Alg: api.MD5}
	rsa = api.Use{Alg: api.RSA, Bits: 2048}
	rc4 = api.Use{Alg: api.RC4, Bits: 128}
	o   = api.Owners{Keys: []int{1}, Need: 1}
)

func f(host string, machine, day, kind int, u api.Use, number int) api.Finding {
	return api.Finding{Source: 7, Host: host, Machine: machine, Day: day, Confidence: 50, Kind: kind, Subject: "tls", Use: u, Number: number}
}

func norm(l ...api.Finding) []api.Finding {
	n, e := finding.Norm(l)
	if e != api.OK {
		panic(e)
	}
	return n
}

func except(u api.Use, host string, from, to int, key int) api.Exception {
	x, _ := exception.Sign(api.Exception{Use: u, Purpose: api.PurposeTransport, Endpoint: host, Days: api.Span{From: from, To: to}}, key)
	return x
}

func TestSpeaks(t *testing.T) {
	for _, x := range []struct {
		f    api.Fact
		alg  int
		want bool
	}{
		{api.Fact{Kind: api.FindUse, Use: md5}, api.MD5, true}, {api.Fact{Kind: api.FindUse, Use: md5}, api.SHA1, false}, {api.Fact{Kind: api.FindKey, Use: rsa}, api.RSA, true}, {api.Fact{Kind: api.FindKey, Use: rsa}, api.RSAKX, false},
		{api.Fact{Kind: api.FindSuite, Number: 2}, api.RSAKX, true}, {api.Fact{Kind: api.FindSuite, Number: 2}, api.RSA, true}, {api.Fact{Kind: api.FindSuite, Number: 2}, api.RC4, true}, {api.Fact{Kind: api.FindSuite, Number: 2}, api.HMACSHA1, true},
		{api.Fact{Kind: api.FindSuite, Number: 2}, api.MD5, false}, {api.Fact{Kind: api.FindSuite, Number: 14}, 0, false}, {api.Fact{Kind: api.FindSuite, Number: 99}, api.RSA, false}, {api.Fact{Kind: api.FindOff, Use: md5}, api.MD5, false},
		{api.Fact{Kind: api.FindMost, Number: 2, Use: md5}, api.MD5, false}, {api.Fact{Kind: api.FindUse}, 0, false}, {api.Fact{Kind: api.FindUse, Use: api.Use{Alg: 23}}, 23, false},
	} {
		if gone.Speaks(x.f, x.alg) != x.want {
			t.Errorf("%v", x)
		}
	}
}

func TestAllAndGone(t *testing.T) {
	off := norm(f("a", 1, 3, api.FindUse, md5, 0), f("a", 1, 5, api.FindOff, md5, 0))
	two := norm(f("b", 1, 3, api.FindUse, md5, 0), f("a", 2, 3, api.FindUse, md5, 0), f("c", 1, 4, api.FindMost, api.Use{}, 3))
	suite := norm(f("a", 1, 3, api.FindSuite, api.Use{}, 2))
	for name, x := range map[string]struct {
		l        []api.Finding
		day, alg int
		x        []api.Exception
		want     string
		gone     bool
	}{
		"none":               {nil, 4, api.MD5, nil, "[]", true},
		"before it is off":   {off, 4, api.MD5, nil, "[{0 false}]", false},
		"off":                {off, 5, api.MD5, nil, "[]", true},
		"too old":            {off[:1], 13, api.MD5, nil, "[]", true},
		"two":                {two, 4, api.MD5, nil, "[{0 false} {1 false}]", false},
		"one covered":        {two, 4, api.MD5, []api.Exception{except(md5, "a", 4, 5, 1)}, "[{0 true} {1 false}]", false},
		"all covered":        {two, 4, api.MD5, []api.Exception{except(md5, "a", 4, 5, 1), except(md5, "c", 1, 9, 1)}, "[{0 true} {1 true}]", true},
		"not signed":         {two, 4, api.MD5, []api.Exception{except(md5, "a", 4, 5, 2), except(md5, "c", 1, 9, 1)}, "[{0 false} {1 true}]", false},
		"not any more":       {two, 5, api.MD5, []api.Exception{except(md5, "a", 4, 5, 1), except(md5, "c", 1, 9, 1)}, "[{0 false} {1 true}]", false},
		"cipher":             {suite, 4, api.RC4, []api.Exception{except(rc4, "a", 4, 5, 1)}, "[{0 true}]", true},
		"other cipher":       {suite, 4, api.RC4, []api.Exception{except(api.Use{Alg: api.RC4, Bits: 40}, "a", 4, 5, 1)}, "[{0 false}]", false},
		"any size":           {suite, 4, api.RSA, []api.Exception{except(api.Use{Alg: api.RSA, Bits: 777}, "a", 4, 5, 1)}, "[{0 true}]", true},
		"another algorithm":  {suite, 4, api.RSA, []api.Exception{except(rc4, "a", 4, 5, 1)}, "[{0 false}]", false},
		"not a size":         {norm(f("a", 1, 3, api.FindKey, rsa, 1)), 4, api.RSA, []api.Exception{except(api.Use{Alg: api.RSA, Bits: 777}, "a", 4, 5, 1)}, "[{0 false}]", false},
		"key":                {norm(f("a", 1, 3, api.FindKey, rsa, 1)), 4, api.RSA, []api.Exception{except(rsa, "a", 4, 5, 1)}, "[{0 true}]", true},
		"for another end":    {suite, 4, api.RC4, []api.Exception{except(rc4, "b", 4, 5, 1)}, "[{0 false}]", false},
		"unknown suite":      {norm(f("a", 1, 3, api.FindSuite, api.Use{}, 999)), 4, api.RC4, nil, "[]", true},
		"by finding, sorted": {norm(f("a", 1, 3, api.FindSuite, api.Use{}, 2), f("a", 1, 4, api.FindSuite, api.Use{}, 1), f("a", 1, 5, api.FindUse, rc4, 0)), 6, api.RC4, nil, "[{0 false} {1 false} {2 false}]", false},
	} {
		l, e := gone.All(x.l, 0, x.day, 9, x.alg, x.x, o)
		gone, err := gone.Gone(x.l, 0, x.day, 9, x.alg, x.x, o)
		if fmt.Sprint(l) != x.want || gone != x.gone || e != api.OK || err != api.OK {
			t.Errorf("%s: %v, %v, %v", name, l, gone, e)
		}
	}
	sign := except(md5, "a", 4, 5, 1)
	sign.Purpose = api.PurposeSign
	sign, _ = exception.Sign(sign, 1)
	if gone, _ := gone.Gone(two[:1], 0, 4, 9, api.MD5, []api.Exception{sign}, o); gone {
		t.Error("covered for another purpose")
	}
}

func estate(web ...int) api.Estate {
	app := api.Endpoint{Name: "app", Least: 1, Most: 3, Suites: []int{10, 2}}
	server := api.Endpoint{Name: "web", Least: 1, Most: 3, Suites: web, Identities: []api.Identity{{Key: rsa, KeyId: 1}}}
	return api.Estate{Endpoints: []api.Endpoint{app, server}, Edges: []api.Edge{{Client: 0, Server: 1}, {Client: 1, Server: 0}}}
}

func TestErrors(t *testing.T) {
	good := norm(f("a", 1, 3, api.FindUse, md5, 0))
	bad := estate(99)
	for name, x := range map[string]struct {
		l                  []api.Finding
		gap, day, age, alg int
		x                  []api.Exception
		e, first           api.Errno
	}{
		"findings": {append(good, good...), -1, -1, -1, 0, []api.Exception{{}}, api.ErrFinding, api.ErrFinding}, "gap": {good, -1, 0, 0, 0, []api.Exception{{}}, api.ErrRange, api.ErrRange}, "great gap": {good, 4001, 0, 0, 0, nil, api.ErrRange, api.ErrRange},
		"age": {good, 0, 0, -1, 0, nil, api.ErrRange, api.ErrRange}, "great age": {good, 0, 0, 4001, 0, nil, api.ErrRange, api.ErrRange}, "day": {good, 0, -1, 0, 0, nil, api.ErrRange, api.ErrUse}, "late day": {good, 0, 40001, 0, 1, nil, api.ErrRange, api.ErrRange},
		"algorithm": {good, 0, 0, 0, 0, []api.Exception{{}}, api.ErrUse, api.ErrUse}, "23": {good, 0, 0, 0, 23, []api.Exception{{}}, api.ErrUse, api.ErrUse}, "exception": {good, 0, 0, 0, 1, []api.Exception{{}}, api.ErrException, api.ErrException},
	} {
		l, a := gone.All(x.l, x.gap, x.day, x.age, x.alg, x.x, o)
		ok, b := gone.Gone(x.l, x.gap, x.day, x.age, x.alg, x.x, o)
		c := gone.Retired(estate(10), x.l, x.gap, x.day, x.age, x.alg, x.x, o)
		day, found, d := gone.First(x.l, x.gap, x.age, x.alg, x.x, o, []int{x.day})
		if l != nil || ok || day != 0 || found || a != x.e || b != x.e || c != x.e || d != x.first {
			t.Errorf("%s: %v, %v, %v, %v", name, a, b, c, d)
		}
		if e := gone.Retired(bad, x.l, x.gap, x.day, x.age, x.alg, x.x, o); e != api.ErrEstate {
			t.Errorf("%s: %v", name, e)
		}
	}
	for _, x := range []struct {
		e    api.Estate
		alg  int
		want api.Errno
	}{{bad, 0, api.ErrEstate}, {estate(10), 0, api.ErrUse}, {estate(10), 23, api.ErrUse}, {estate(10), -1, api.ErrUse}} {
		if l, e := gone.Possible(x.e, x.alg); l != nil || e != x.want {
			t.Error(l, e)
		}
	}
}

func TestPossibleAndRetired(t *testing.T) {
	for alg, want := range map[int]string{api.RC4: "[0]", api.RSA: "[0]", api.RSAKX: "[0]", api.ECDHE: "[0]", api.HMACSHA1: "[0]", api.CHACHA: "[]", api.MD5: "[]"} {
		if l, e := gone.Possible(estate(10, 2), alg); fmt.Sprint(l) != want || e != api.OK {
			t.Errorf("%d: %v, %v", alg, l, e)
		}
	}
	l := norm(f("web", 1, 3, api.FindUse, rc4, 0), f("web", 1, 5, api.FindOff, rc4, 0))
	for _, x := range []struct {
		e    api.Estate
		day  int
		x    []api.Exception
		want api.Errno
	}{{estate(10, 2), 5, nil, api.ErrMethod}, {estate(10), 4, nil, api.ErrMethod}, {estate(10), 5, nil, api.OK}, {estate(10), 4, []api.Exception{except(rc4, "web", 4, 5, 1)}, api.OK}, {estate(10, 2), 4, []api.Exception{except(rc4, "web", 4, 5, 1)}, api.ErrMethod}} {
		if e := gone.Retired(x.e, l, 0, x.day, 9, api.RC4, x.x, o); e != x.want {
			t.Errorf("%v: %v", x, e)
		}
	}
}

func TestFirst(t *testing.T) {
	l := norm(f("a", 1, 3, api.FindUse, md5, 0), f("a", 1, 5, api.FindOff, md5, 0), f("a", 1, 8, api.FindUse, md5, 0))
	for _, x := range []struct {
		days []int
		want string
	}{{nil, "0 false"}, {[]int{3, 4, 8}, "0 false"}, {[]int{4, 7, 5, 2}, "7 true"}, {[]int{0}, "0 true"}, {[]int{8, 18}, "18 true"}} {
		if day, ok, e := gone.First(l, 0, 9, api.MD5, nil, o, x.days); fmt.Sprint(day, ok) != x.want || e != api.OK {
			t.Errorf("%v: %d, %v, %v", x.days, day, ok, e)
		}
	}
	if _, _, e := gone.First(l, 0, 9, api.MD5, nil, o, []int{5, 40001}); e != api.ErrRange {
		t.Error(e)
	}
}
