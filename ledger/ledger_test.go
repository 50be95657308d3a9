package ledger_test

import (
	"fmt"
	"math/rand"
	"slices"
	"testing"

	"cipherplan/api"
	"cipherplan/ledger"
)

func d(day, known, kind, subject, value int) api.Decision {
	return api.Decision{Day: day, Known: known, Kind: kind, Subject: subject, Value: value}
}

func of(l ...api.Decision) api.Ledger { return api.Ledger{Decisions: l} }

func TestCheckAndAdd(t *testing.T) {
	good := d(5, 7, 3, 2, 1)
	for name, x := range map[string]struct {
		d api.Decision
		e api.Errno
	}{
		"same": {good, api.OK}, "greatest": {d(40000, 400, 5, 40, 1), api.OK}, "day": {d(-1, 7, 3, 2, 1), api.ErrDecision}, "late": {d(40001, 7, 3, 2, 1), api.ErrDecision}, "known": {d(5, 401, 3, 2, 1), api.ErrDecision},
		"negative": {d(5, -1, 3, 2, 1), api.ErrDecision}, "kind 0": {d(5, 7, 0, 2, 1), api.ErrDecision}, "kind 6": {d(5, 7, 6, 2, 1), api.ErrDecision}, "subject": {d(5, 7, 3, 41, 1), api.ErrDecision}, "no subject": {d(5, 7, 3, -1, 1), api.ErrDecision},
		"value": {d(5, 7, 3, 2, 2), api.ErrDecision}, "-1": {d(5, 7, 3, 2, -1), api.ErrDecision}, "day falls": {d(4, 7, 3, 2, 1), api.ErrOrder}, "known falls": {d(5, 6, 3, 2, 1), api.ErrOrder}, "falls, wrong": {d(4, 7, 3, 2, 2), api.ErrDecision},
	} {
		l, e := ledger.Add(of(good), x.d)
		want := of(good)
		if x.e == api.OK {
			want = of(good, x.d)
		}
		if !ledger.Same(l, want) || e != x.e || ledger.Check(of(good, x.d)) != x.e {
			t.Errorf("%s: %v, %v", name, l, e)
		}
	}
	if e := ledger.Check(of(d(0, 0, 1, 0, 0))); e != api.OK {
		t.Error(e)
	}
	if l, e := ledger.Add(api.Ledger{}, good); !ledger.Same(l, of(good)) || e != api.OK || ledger.Check(api.Ledger{}) != api.OK {
		t.Error(l, e)
	}
	first := of(d(5, 7, 3, 2, 1), d(4, 7, 3, 2, 1), d(5, 7, 9, 2, 1))
	if l, e := ledger.Add(first, api.Decision{}); !ledger.Same(l, first) || e != api.ErrOrder || ledger.Check(first) != api.ErrOrder {
		t.Error(l, e)
	}
	full := of(slices.Repeat([]api.Decision{good}, 128)...)
	if l, e := ledger.Add(full, api.Decision{}); !ledger.Same(l, full) || e != api.ErrLimit || ledger.Check(full) != api.OK {
		t.Error(e)
	}
	if e := ledger.Check(of(make([]api.Decision, 129)...)); e != api.ErrLimit {
		t.Error(e)
	}
	if l, e := ledger.Add(of(full.Decisions[:127]...), good); !ledger.Same(l, full) || e != api.OK {
		t.Error(e)
	}
	room := make([]api.Decision, 1, 5)
	room[0] = good
	a, _ := ledger.Add(of(room...), d(6, 7, 1, 1, 1))
	b, _ := ledger.Add(of(room...), d(7, 7, 1, 1, 1))
	if a.Decisions[1].Day != 6 || b.Decisions[1].Day != 7 {
		t.Error("memory is shared")
	}
}

func some() api.Ledger {
	return of(d(1, 0, 3, 2, 1), d(3, 2, 3, 2, 0), d(3, 5, 2, 2, 1), d(7, 5, 3, 2, 0), d(9, 8, 3, 2, 1), d(9, 9, 3, 4, 1))
}

func TestLatestThenKnown(t *testing.T) {
	for _, x := range []struct {
		kind, subject, day int
		want               string
	}{{3, 2, 0, "{0 0 0 0 0} false"}, {3, 2, 2, "{1 0 3 2 1} true"}, {3, 2, 3, "{3 2 3 2 0} true"}, {3, 2, 40000, "{9 8 3 2 1} true"}, {2, 2, 9, "{3 5 2 2 1} true"}, {3, 4, 8, "{0 0 0 0 0} false"}, {3, 3, 9, "{0 0 0 0 0} false"}} {
		if got, ok := ledger.Latest(some(), x.kind, x.subject, x.day); fmt.Sprint(got, ok) != x.want {
			t.Errorf("%v: %v, %v", x, got, ok)
		}
	}
	for day, want := range map[int][2]int{-1: {0, 0}, 0: {0, 0}, 1: {1, 0}, 3: {3, 5}, 6: {3, 5}, 7: {4, 5}, 9: {6, 9}, 50000: {6, 9}} {
		l := ledger.Then(some(), day)
		if !ledger.Same(l, of(some().Decisions[:want[0]]...)) || ledger.Known(some(), day) != want[1] {
			t.Errorf("%d: %v, %d", day, l, ledger.Known(some(), day))
		}
	}
	l := some()
	ledger.Then(l, 9).Decisions[0].Day = 99
	if l.Decisions[0].Day != 1 {
		t.Error("memory is shared")
	}
}

func TestChangedDifferSame(t *testing.T) {
	if l := ledger.Changed(some(), 3, 2); fmt.Sprint(l) != "[0 1 4]" || ledger.Changed(some(), 1, 1) != nil {
		t.Error(l)
	}
	if l := ledger.Changed(of(d(1, 0, 3, 2, 0), d(1, 0, 3, 2, 0)), 3, 2); fmt.Sprint(l) != "[0]" {
		t.Error(l)
	}
	a := some()
	for i := range a.Decisions {
		b := some()
		b.Decisions[i].Value = 1 - b.Decisions[i].Value
		if n, ok := ledger.Differ(a, b); n != i || !ok || ledger.Same(a, b) {
			t.Error(n, ok)
		}
		c := of(a.Decisions[:i]...)
		if n, ok := ledger.Differ(a, c); n != i || !ok || ledger.Same(a, c) {
			t.Error(n, ok)
		}
		if n, ok := ledger.Differ(c, a); n != i || !ok {
			t.Error(n, ok)
		}
	}
	if n, ok := ledger.Differ(a, some()); n != 0 || ok || !ledger.Same(a, some()) {
		t.Error(n, ok)
	}
}

// What a ledger said at the end of a day never changes by later decisions; values of Changed alternate.
func TestConsequences(t *testing.T) {
	r := rand.New(rand.NewSource(32))
	for range 300 {
		var l api.Ledger
		day := 0
		for range 20 {
			day += r.Intn(3)
			before := l
			l, _ = ledger.Add(l, d(day, 0, 1+r.Intn(2), r.Intn(2), r.Intn(2)))
			for past := range day {
				if !ledger.Same(ledger.Then(before, past), ledger.Then(l, past)) {
					t.Fatalf("%v", l)
				}
				for kind := 1; kind < 3; kind++ {
					a, ok := ledger.Latest(l, kind, 1, past)
					b, there := ledger.Latest(ledger.Then(l, past), kind, 1, day)
					if a != b || ok != there {
						t.Fatalf("%v", l)
					}
				}
			}
		}
		changed := ledger.Changed(l, 1, 1)
		for i := 1; i < len(changed); i++ {
			if l.Decisions[changed[i]].Value == l.Decisions[changed[i-1]].Value {
				t.Fatalf("%v: %v", l, changed)
			}
		}
	}
}
