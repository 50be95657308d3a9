package asset_test

import (
	"fmt"
	"math/rand"
	"slices"
	"testing"

	"cipherplan/api"
	"cipherplan/asset"
	"cipherplan/finding"
)

var (
	md5 = api.Use{Alg: api.MD5}
	rsa = api.Use{Alg: api.RSA, Bits: 2048}
)

func f(day, confidence, kind int, u api.Use, number int, text string) api.Finding {
	return api.Finding{Source: 1, Host: "a", Machine: 1, Day: day, Confidence: confidence, Kind: kind, Subject: "tls", Use: u, Number: number, Text: text}
}

func all(l ...api.Finding) ([]api.Finding, api.Entity) {
	n, e := finding.Norm(l)
	if e != api.OK {
		panic(e)
	}
	x := api.Entity{Number: 0, Hosts: []string{"a"}, Machines: []int{1}}
	for i := range n {
		x.Findings = append(x.Findings, i)
	}
	return n, x
}

func TestFacts(t *testing.T) {
	none := api.Use{}
	for name, x := range map[string]struct {
		l        []api.Finding
		day, age int
		want     string
	}{
		"before it is off": {[]api.Finding{f(3, 9, api.FindUse, md5, 0, ""), f(5, 9, api.FindOff, md5, 0, "")}, 4, 9, "[{0 tls 1 {1 0} 0  0}]"},
		"off":              {[]api.Finding{f(3, 9, api.FindUse, md5, 0, ""), f(5, 9, api.FindOff, md5, 0, "")}, 5, 9, "[]"},
		"too old":          {[]api.Finding{f(3, 9, api.FindUse, md5, 0, "")}, 6, 2, "[]"},
		"just not too old": {[]api.Finding{f(3, 9, api.FindUse, md5, 0, "")}, 5, 2, "[{0 tls 1 {1 0} 0  0}]"},
		"the latest":       {[]api.Finding{f(3, 90, api.FindMost, none, 4, ""), f(4, 1, api.FindMost, none, 3, "")}, 9, 9, "[{0 tls 4 {0 0} 3  1}]"},
		"the surest":       {[]api.Finding{f(3, 8, api.FindMost, none, 2, ""), f(3, 9, api.FindMost, none, 3, "")}, 9, 9, "[{0 tls 4 {0 0} 3  1}]"},
		"the first":        {[]api.Finding{f(3, 9, api.FindMost, none, 3, ""), f(3, 9, api.FindMost, none, 2, "")}, 9, 9, "[{0 tls 4 {0 0} 2  0}]"},
		"one key":          {[]api.Finding{f(3, 9, api.FindKey, rsa, 5, ""), f(4, 9, api.FindKey, rsa, 4, "")}, 9, 9, "[{0 tls 3 {5 2048} 4  1}]"},
		"many suites": {[]api.Finding{f(3, 9, api.FindSuite, none, 5, ""), f(4, 9, api.FindSuite, none, 4, ""), f(4, 9, api.FindTrust, none, 4, ""), f(1, 9, api.FindPeer, none, 0, "db"), f(2, 9, api.FindPeer, none, 0, "cb")}, 9, 9,
			"[{0 tls 2 {0 0} 4  3} {0 tls 2 {0 0} 5  2} {0 tls 6 {0 0} 4  4} {0 tls 7 {0 0} 0 cb 1} {0 tls 7 {0 0} 0 db 0}]"},
		"two uses":  {[]api.Finding{f(3, 9, api.FindUse, md5, 0, ""), f(3, 9, api.FindOff, rsa, 0, "")}, 9, 9, "[{0 tls 1 {1 0} 0  0}]"},
		"off again": {[]api.Finding{f(3, 9, api.FindOff, md5, 0, ""), f(4, 9, api.FindUse, md5, 0, "")}, 9, 9, "[{0 tls 1 {1 0} 0  1}]"},
	} {
		l, e := all(x.l...)
		facts, err := asset.Facts(l, e, x.day, x.age)
		if fmt.Sprint(facts) != x.want || err != api.OK {
			t.Errorf("%s: %v, %v", name, facts, err)
		}
	}
	l, e := all(f(3, 9, api.FindUse, md5, 0, ""), f(3, 9, api.FindMost, none, 1, ""))
	e.Number, e.Findings = 7, []int{1}
	if facts, err := asset.Facts(l, e, 3, 0); fmt.Sprint(facts) != "[{7 tls 4 {0 0} 1  1}]" || err != api.OK {
		t.Error(facts, err)
	}
}

func TestErrors(t *testing.T) {
	l, e := all(f(3, 9, api.FindUse, md5, 0, ""))
	for name, x := range map[string]struct {
		l               []api.Finding
		findings        []int
		day, age, sure  int
		facts, conflict api.Errno
	}{
		"good":       {l, e.Findings, api.MaxDay, api.MaxAge, 100, api.OK, api.OK},
		"not normal": {append(l, l...), []int{9}, -1, -1, 0, api.ErrFinding, api.ErrFinding},
		"day":        {l, []int{9}, -1, 0, 0, api.ErrRange, api.ErrRange},
		"late day":   {l, []int{9}, api.MaxDay + 1, 0, 101, api.ErrRange, api.ErrRange},
		"age":        {l, []int{9}, 0, -1, 1, api.ErrRange, api.ErrNone},
		"great age":  {l, []int{9}, 0, api.MaxAge + 1, 1, api.ErrRange, api.ErrNone},
		"finding":    {l, []int{0, 1}, 0, 0, 1, api.ErrNone, api.ErrNone},
		"negative":   {l, []int{-1}, 0, 0, 1, api.ErrNone, api.ErrNone},
	} {
		facts, err := asset.Facts(x.l, api.Entity{Findings: x.findings}, x.day, x.age)
		conflicts, err2 := asset.Conflicts(x.l, api.Entity{Findings: x.findings}, x.sure)
		if err != x.facts || err2 != x.conflict || err != api.OK && facts != nil || conflicts != nil {
			t.Errorf("%s: %v, %v", name, err, err2)
		}
	}
}

func TestUsesAndNumber(t *testing.T) {
	facts := []api.Fact{{Subject: "b", Kind: api.FindUse, Use: md5}, {Subject: "a", Kind: api.FindUse, Use: rsa}, {Subject: "a", Kind: api.FindUse, Use: md5}, {Subject: "a", Kind: api.FindMost, Number: 3}, {Subject: "a", Kind: api.FindMost, Number: 4}, {Subject: "a", Kind: api.FindKey, Use: rsa}}
	if l := asset.Uses(facts, "a"); !slices.Equal(l, []api.Use{rsa, md5}) || asset.Uses(facts, "c") != nil {
		t.Error(l)
	}
	if n, ok := asset.Number(facts, "a", api.FindMost); n != 3 || !ok {
		t.Error(n, ok)
	}
	if n, ok := asset.Number(facts, "b", api.FindMost); n != 0 || ok {
		t.Error(n, ok)
	}
}

func TestConflicts(t *testing.T) {
	none := api.Use{}
	l, e := all(
		f(3, 50, api.FindUse, md5, 0, ""), f(3, 60, api.FindUse, md5, 0, ""), f(3, 70, api.FindOff, md5, 0, ""), f(4, 70, api.FindOff, md5, 0, ""),
		f(3, 50, api.FindKey, rsa, 1, ""), f(3, 50, api.FindKey, rsa, 2, ""), f(3, 50, api.FindMost, none, 1, ""), f(3, 50, api.FindLeast, none, 2, ""),
		f(4, 50, api.FindLeast, none, 2, ""), f(4, 50, api.FindLeast, none, 3, ""), f(3, 50, api.FindSuite, none, 2, ""), f(3, 50, api.FindSuite, none, 3, ""),
	)
	for confidence, want := range map[int]string{1: "[{0 8} {1 8} {4 5} {9 10}]", 51: "[{1 8}]", 61: "[]", 50: "[{0 8} {1 8} {4 5} {9 10}]"} {
		got, err := asset.Conflicts(l, e, confidence)
		if fmt.Sprint(got) != want || err != api.OK {
			t.Errorf("%d: %v, %v of %v", confidence, got, err, l)
		}
	}
	slices.Reverse(e.Findings)
	if got, _ := asset.Conflicts(l, e, 51); fmt.Sprint(got) != "[{1 8}]" {
		t.Error(got)
	}
	m, e := all(f(3, 50, api.FindKey, rsa, 1, ""), f(3, 50, api.FindKey, api.Use{Alg: api.ED25519}, 1, ""))
	if got, _ := asset.Conflicts(m, e, 1); fmt.Sprint(got) != "[{0 1}]" {
		t.Error(got)
	}
}

func TestChanges(t *testing.T) {
	a := []api.Fact{{Subject: "a", Finding: 1}, {Subject: "b", Finding: 2}, {Subject: "c"}}
	b := []api.Fact{{Subject: "d"}, {Subject: "a", Finding: 7}, {Entity: 1, Subject: "c"}}
	came, went := asset.Changes(a, b)
	if fmt.Sprint(came) != "[{0 d 0 {0 0} 0  0} {1 c 0 {0 0} 0  0}]" || fmt.Sprint(went) != "[{0 b 0 {0 0} 0  2} {0 c 0 {0 0} 0  0}]" {
		t.Error(came, went)
	}
}

// A later finding changes no fact of an earlier day; with a greater age no fact goes away.
func TestLaterFinding(t *testing.T) {
	r := rand.New(rand.NewSource(9))
	for range 500 {
		var some []api.Finding
		for range 12 {
			some = append(some, f(r.Intn(10), 1+r.Intn(3), []int{api.FindUse, api.FindOff}[r.Intn(2)], api.Use{Alg: 1 + r.Intn(3)}, 0, ""))
		}
		l, e := all(some...)
		early := slices.DeleteFunc(slices.Clone(some), func(x api.Finding) bool { return x.Day > 5 })
		k, d := all(early...)
		a, _ := asset.Facts(k, d, 5, 4)
		b, _ := asset.Facts(l, e, 5, 4)
		if came, went := asset.Changes(a, b); len(came)+len(went) > 0 {
			t.Fatalf("%v: %v, %v", some, came, went)
		}
		c, _ := asset.Facts(l, e, 5, 5)
		if _, went := asset.Changes(b, c); len(went) > 0 {
			t.Fatalf("%v: %v", some, went)
		}
	}
}
