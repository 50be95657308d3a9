package identity_test

import (
	"fmt"
	"math/rand"
	"slices"
	"testing"

	"cipherplan/api"
	"cipherplan/finding"
	"cipherplan/identity"
)

func f(host string, machine, day, number int) api.Finding {
	return api.Finding{Source: 7, Host: host, Machine: machine, Day: day, Confidence: 50, Kind: api.FindSuite, Subject: "tls", Number: number}
}

func norm(l ...api.Finding) []api.Finding {
	n, _ := finding.Norm(l)
	return n
}

func TestEntities(t *testing.T) {
	for name, x := range map[string]struct {
		l    []api.Finding
		gap  int
		want string
	}{
		"none":               {nil, 3, "[]"},
		"near":               {norm(f("a", 1, 3, 0), f("a", 0, 5, 0)), 2, "[{0 [a] [1] [0 1]}]"},
		"not near":           {norm(f("a", 1, 3, 0), f("a", 0, 5, 0)), 1, "[{0 [a] [] [0]} {1 [a] [1] [1]}]"},
		"before":             {norm(f("a", 1, 7, 0), f("a", 0, 5, 0)), 2, "[{0 [a] [1] [0 1]}]"},
		"renamed":            {norm(f("b", 1, 9, 0), f("a", 1, 3, 0)), 0, "[{0 [a b] [1] [0 1]}]"},
		"the nearest":        {norm(f("a", 0, 5, 0), f("a", 1, 3, 0), f("a", 2, 6, 0)), 9, "[{0 [a] [2] [0 2]} {1 [a] [1] [1]}]"},
		"the earlier":        {norm(f("a", 0, 5, 0), f("a", 2, 4, 0), f("a", 1, 6, 0)), 9, "[{0 [a] [2] [0 2]} {1 [a] [1] [1]}]"},
		"the least machine":  {norm(f("a", 0, 5, 0), f("a", 2, 4, 0), f("a", 1, 4, 0)), 9, "[{0 [a] [1] [0 1]} {2 [a] [2] [2]}]"},
		"another host":       {norm(f("a", 0, 5, 0), f("b", 1, 5, 0)), 9, "[{0 [a] [] [0]} {1 [b] [1] [1]}]"},
		"a row":              {norm(f("a", 0, 1, 0), f("a", 0, 3, 0), f("a", 0, 5, 0), f("a", 0, 8, 0)), 2, "[{0 [a] [] [0 1 2]} {3 [a] [] [3]}]"},
		"one day, no gap":    {norm(f("a", 0, 1, 0), f("a", 0, 1, 1), f("a", 0, 2, 0)), 0, "[{0 [a] [] [0 1]} {2 [a] [] [2]}]"},
		"not through others": {norm(f("a", 0, 1, 0), f("a", 0, 3, 0), f("a", 1, 4, 0), f("a", 0, 5, 0)), 2, "[{0 [a] [] [0]} {1 [a] [1] [1 2 3]}]"},
		"two hosts":          {norm(f("a", 0, 1, 0), f("b", 0, 1, 0)), 2, "[{0 [a] [] [0]} {1 [b] [] [1]}]"},
		"through a machine":  {norm(f("a", 0, 1, 0), f("a", 5, 1, 0), f("b", 0, 9, 0), f("b", 5, 9, 0)), 2, "[{0 [a b] [5] [0 1 2 3]}]"},
	} {
		l, e := identity.Entities(x.l, x.gap)
		if fmt.Sprint(l) != x.want || e != api.OK {
			t.Errorf("%s: %v, %v", name, l, e)
		}
	}
}

func TestErrors(t *testing.T) {
	good := norm(f("a", 1, 3, 0), f("b", 1, 3, 0))
	turned := []api.Finding{good[1], good[0]}
	for name, x := range map[string]struct {
		l   []api.Finding
		gap int
		e   api.Errno
	}{
		"good":     {good, api.MaxGap, api.OK},
		"gap":      {good, api.MaxGap + 1, api.ErrRange},
		"negative": {good, -1, api.ErrRange},
		"order":    {turned, -1, api.ErrFinding},
		"twice":    {[]api.Finding{good[0], good[0]}, 0, api.ErrFinding},
		"invalid":  {[]api.Finding{{}}, 0, api.ErrFinding},
		"many":     {make([]api.Finding, 401), 0, api.ErrFinding},
	} {
		l, e := identity.Entities(x.l, x.gap)
		m, g := identity.Names(x.l, x.gap, "a", 3)
		n, h := identity.Touched(x.l, x.gap, f("a", 0, 0, 0))
		if e != x.e || g != x.e || h != x.e || e != api.OK && (l != nil || m != nil || n != nil) {
			t.Errorf("%s: %v, %v, %v", name, e, g, h)
		}
		c, e := identity.Clones(x.l)
		if (e == api.ErrFinding) != (x.e == api.ErrFinding) || e != api.OK && c != nil {
			t.Errorf("%s: %v", name, e)
		}
	}
	if n, e := identity.Touched(good, 0, api.Finding{Host: "a"}); n != nil || e != api.ErrFinding {
		t.Error(n, e)
	}
	if _, e := identity.Touched(good, -1, api.Finding{}); e != api.ErrRange {
		t.Error(e)
	}
}

func TestOf(t *testing.T) {
	l, _ := identity.Entities(norm(f("a", 1, 3, 0), f("b", 2, 3, 0), f("c", 1, 3, 0)), 0)
	if identity.Of(l, 0) != 0 || identity.Of(l, 1) != 1 || identity.Of(l, 2) != 0 || identity.Of(l, 3) != -1 || identity.Of(nil, 0) != -1 {
		t.Error(l)
	}
}

func TestClones(t *testing.T) {
	l := norm(f("c", 2, 3, 0), f("b", 2, 3, 0), f("b", 2, 3, 1), f("b", 2, 4, 0), f("b", 1, 9, 0), f("a", 1, 9, 0), f("a", 0, 9, 0), f("d", 0, 9, 0), f("e", 3, 1, 0), f("e", 3, 1, 1))
	if c, e := identity.Clones(l); fmt.Sprint(c) != "[{1 9 [a b]} {2 3 [b c]}]" || e != api.OK {
		t.Error(c, e)
	}
}

func TestNamesAndTouched(t *testing.T) {
	l := norm(f("a", 1, 3, 0), f("a", 2, 3, 0), f("a", 1, 4, 0), f("b", 2, 9, 0), f("c", 3, 3, 0), f("c", 4, 3, 0))
	if n, e := identity.Names(l, 0, "a", 3); fmt.Sprint(n) != "[0 2]" || e != api.OK {
		t.Error(n, e)
	}
	if n, e := identity.Names(l, 0, "b", 3); len(n) != 0 || e != api.OK {
		t.Error(n, e)
	}
	if n, e := identity.Touched(l, 0, f("b", 3, 1, 0)); fmt.Sprint(n) != "[2 4]" || e != api.OK {
		t.Error(n, e)
	}
	if n, e := identity.Touched(l, 0, f("x", 0, 1, 0)); len(n) != 0 || e != api.OK {
		t.Error(n, e)
	}
}

// Each finding is about one entity; the order in which findings came does not matter; a late one changes only what it touches.
func TestLateFinding(t *testing.T) {
	r := rand.New(rand.NewSource(8))
	some := func() api.Finding { return f(string(rune('a'+r.Intn(3))), r.Intn(3), r.Intn(12), r.Intn(2)) }
	for range 2000 {
		var l []api.Finding
		for range r.Intn(10) {
			l = append(l, some())
		}
		l = norm(l...)
		gap, late := r.Intn(4), some()
		before, _ := identity.Entities(l, gap)
		count := 0
		for _, e := range before {
			count += len(e.Findings)
			if len(e.Machines) > 1 || e.Number != e.Findings[0] {
				t.Fatalf("%v", e)
			}
		}
		if count != len(l) {
			t.Fatalf("%d of %d", count, len(l))
		}
		merged, _ := finding.Merge(l, []api.Finding{late})
		after, _ := identity.Entities(merged, gap)
		touched, _ := identity.Touched(l, gap, late)
		for _, e := range before {
			if slices.Contains(touched, e.Number) {
				continue
			}
			var want []int
			for _, i := range e.Findings {
				want = append(want, slices.Index(merged, l[i]))
			}
			if !slices.ContainsFunc(after, func(x api.Entity) bool { return slices.Equal(x.Findings, want) }) {
				t.Fatalf("%v with %v: %v is gone from %v", l, late, e, after)
			}
		}
	}
}
