package script_test

import (
	"fmt"
	"math/rand"
	"slices"
	"strings"
	"testing"

	"cipherplan/api"
	"cipherplan/certificate"
	"cipherplan/endpoint"
	"cipherplan/estate"
	"cipherplan/journal"
	"cipherplan/ledger"
	"cipherplan/rule"
	"cipherplan/runner"
	"cipherplan/script"
)

var rsa = api.Use{Alg: api.RSA, Bits: 2048}

func identity(key, anchor int) api.Identity {
	c, _ := certificate.Sign(api.Certificate{Issuer: "root", Subject: "web", Key: rsa, KeyId: key, Hash: api.Use{Alg: api.SHA256}, From: 0, To: 300, Names: []string{"web"}}, anchor)
	return api.Identity{Key: rsa, KeyId: key, Chain: []api.Certificate{c}}
}

func estate1() api.Estate {
	app := api.Endpoint{Name: "app", Least: 1, Most: 3, Suites: []int{10, 2}, Anchors: []int{9}, Hashes: []int{3}}
	web := api.Endpoint{Name: "web", Least: 1, Most: 3, Suites: []int{2, 10}, Identities: []api.Identity{identity(1, 9)}}
	return api.Estate{Endpoints: []api.Endpoint{app, web}, Edges: []api.Edge{{Client: 0, Server: 1}}}
}

// renew: app gets the anchor 8, web an identity below it, and loses the old one; then the suite 2 goes.
func renew() api.Plan {
	return api.Plan{
		Changes: []api.Change{
			{Endpoint: 0, Kind: api.AddAnchor, Number: 8}, {Endpoint: 1, Kind: api.AddIdentity, Identity: identity(2, 8)},
			{Endpoint: 1, Kind: api.DropIdentity, Number: 1}, {Endpoint: 1, Kind: api.DropSuite, Number: 2},
		},
		Required: []api.Required{{First: 0, Then: 1}, {First: 1, Then: 2}},
		Days:     []int{10, 20, 30, 10},
	}
}

func world(t *testing.T, text string) api.World {
	p, n, e := rule.Parse(text)
	w, f := script.New(estate1(), p, nil, api.Owners{}, renew(), 5)
	if e != api.OK || f != api.OK {
		t.Fatal(n, e, f)
	}
	return w
}

func act(kind, number int) api.Act { return api.Act{Kind: kind, Number: number} }

// do does acts that have no error.
func do(t *testing.T, w api.World, l ...api.Act) api.World {
	t.Helper()
	for i, a := range l {
		next, e := script.Do(w, a)
		if e != api.OK {
			t.Fatalf("act %d: %v", i, e)
		}
		w = next
	}
	return w
}

func fails(t *testing.T, name string, w api.World, a api.Act, want api.Errno) {
	t.Helper()
	if v, e := script.Do(w, a); e != want || !script.Same(v, w) {
		t.Errorf("%s: %v, want %v", name, e, want)
	}
}

func decisions(w api.World) string {
	s := ""
	for _, d := range w.Ledger.Decisions {
		s += fmt.Sprint(d.Day, d.Known, d.Kind, d.Subject, d.Value, " ")
	}
	return s
}

func TestNew(t *testing.T) {
	w := world(t, "forbid rc4")
	run, _ := runner.New(renew(), 5)
	want := api.World{Estate: estate1(), Hosts: []api.Host{{Endpoint: estate1().Endpoints[0]}, {Endpoint: estate1().Endpoints[1]}}, Policy: w.Policy, Run: run}
	if !script.Same(w, want) {
		t.Error(w)
	}
	bad := estate1()
	bad.Edges[0].Client = 7
	rules := api.Policy{Rules: []api.Rule{{}}}
	far := renew()
	far.Changes[0].Endpoint = 2
	short := far
	short.Days = nil
	for name, x := range map[string]struct {
		e    api.Estate
		p    api.Policy
		x    []api.Exception
		q    api.Plan
		day  int
		want api.Errno
	}{
		"estate": {bad, rules, []api.Exception{{}}, short, -1, api.ErrEstate}, "rule": {estate1(), rules, []api.Exception{{}}, short, -1, api.ErrRule}, "exception": {estate1(), api.Policy{}, []api.Exception{{}}, short, -1, api.ErrException},
		"day": {estate1(), api.Policy{}, nil, short, -1, api.ErrRange}, "plan": {estate1(), api.Policy{}, nil, short, 1, api.ErrPlan}, "change": {estate1(), api.Policy{}, nil, far, 1, api.ErrChange},
	} {
		if w, e := script.New(x.e, x.p, x.x, api.Owners{}, x.q, x.day); e != x.want || !script.Same(w, api.World{}) {
			t.Errorf("%s: %v", name, e)
		}
	}
	if w, e := script.New(api.Estate{}, api.Policy{}, nil, api.Owners{}, api.Plan{}, 0); e != api.OK || !script.Same(w, api.World{}) {
		t.Error(w, e)
	}
}

func TestModelAndActual(t *testing.T) {
	w := do(t, world(t, ""), act(api.ActDay, 10), act(api.ActTry, api.FaultNone))
	model, e := script.Model(w)
	want, _ := estate.State(estate1(), renew().Changes, api.Set{0})
	if !estate.Same(model, want) || !estate.Same(script.Actual(w), want) || e != api.OK {
		t.Error(model, e)
	}
}

func TestForm(t *testing.T) {
	w := world(t, "")
	f := api.Finding{Host: "a"}
	for name, a := range map[string]api.Act{
		"kind 0": {}, "kind 8": act(8, 0), "negative": act(-1, 0), "day with a change": {Kind: api.ActDay, Number: 9, Change: api.Change{At: 1}}, "try with a finding": {Kind: api.ActTry, Finding: f}, "undo with a change": {Kind: api.ActUndo, Change: api.Change{Identity: api.Identity{KeyId: 1}}},
		"drift with a finding": {Kind: api.ActDrift, Finding: f}, "observe with a number": {Kind: api.ActObserve, Number: 1}, "observe with a change": {Kind: api.ActObserve, Change: api.Change{Kind: 1}}, "crash": {Kind: api.ActCrash, Finding: f}, "resume": act(api.ActResume, 1),
	} {
		fails(t, name, w, a, api.ErrAct)
	}
}

func TestDay(t *testing.T) {
	w := do(t, world(t, ""), act(api.ActDay, 5), act(api.ActDay, 7))
	if w.Run.Day != 7 {
		t.Error(w.Run.Day)
	}
	fails(t, "back", w, act(api.ActDay, 6), api.ErrRange)
	fails(t, "too far", w, act(api.ActDay, 40001), api.ErrRange)
}

func TestTry(t *testing.T) {
	w := do(t, world(t, ""), act(api.ActDay, 10))
	done, _ := estate.State(estate1(), renew().Changes, api.Set{0})
	for fault, x := range map[int]struct {
		step   int
		actual api.Estate
		ledger string
	}{api.FaultNone: {api.StepDone, done, "10 0 3 0 1 "}, api.FaultSilent: {api.StepDone, done, "10 0 3 0 1 "}, api.FaultFail: {api.StepFailed, estate1(), ""}, api.FaultLost: {api.StepFailed, estate1(), ""}} {
		v := do(t, w, act(api.ActTry, fault))
		if v.Run.Steps[0] != x.step || v.Run.Tries[0] != 1 || !estate.Same(script.Actual(v), x.actual) || decisions(v) != x.ledger || v.Run.Stopped {
			t.Errorf("%d: %v, %s", fault, v.Run, decisions(v))
		}
		if l, n := journal.Replay(v.Journal); !ledger.Same(l, v.Ledger) || n != len(l.Decisions) {
			t.Errorf("%d: %v", fault, l)
		}
	}
	fails(t, "fault", w, act(api.ActTry, 4), api.ErrRange)
	fails(t, "negative", w, act(api.ActTry, -1), api.ErrRange)
	fails(t, "nothing to do", world(t, ""), act(api.ActTry, 9), api.ErrNone)
	tired := do(t, w, act(api.ActTry, 1), act(api.ActTry, 1), act(api.ActTry, 1), act(api.ActTry, 1), act(api.ActTry, 0))
	if fmt.Sprint(tired.Run.Steps, tired.Run.Tries) != "[2 0 0 1] [4 0 0 1]" {
		t.Error(tired.Run)
	}
	// The host has drifted, and does nothing: it is neither what it was nor what it should be.
	v := do(t, w, api.Act{Kind: api.ActDrift, Change: api.Change{Kind: api.SetMost, Number: 4}}, act(api.ActTry, api.FaultFail))
	if !v.Run.Stopped || v.Run.Steps[0] != api.StepWaiting || v.Run.Tries[0] != 1 || decisions(v) != "10 0 4 0 1 " {
		t.Error(v.Run, decisions(v))
	}
	fails(t, "stopped", v, act(api.ActTry, 9), api.ErrStop)
	// It has drifted, and becomes what it should be.
	v = do(t, w, api.Act{Kind: api.ActDrift, Change: api.Change{Kind: api.SetMost, Number: 4}}, act(api.ActTry, api.FaultNone))
	if v.Run.Stopped || v.Run.Steps[0] != api.StepDone || !estate.Same(script.Actual(v), done) {
		t.Error(v.Run)
	}
	q := renew()
	q.Changes[0].Number = 9
	impossible, _ := script.New(estate1(), api.Policy{}, nil, api.Owners{}, q, 10)
	fails(t, "done before", impossible, act(api.ActTry, 0), api.ErrDone)
}

func TestForbid(t *testing.T) {
	p, _, _ := rule.Parse("forbid chacha\nforbid rc4 from 12")
	e := estate1()
	e.Endpoints[0].Suites = append(e.Endpoints[0].Suites, 12)
	q := api.Plan{Changes: []api.Change{{Endpoint: 1, Kind: api.AddSuite, Number: 12}, {Endpoint: 1, Kind: api.DropSuite, Number: 2}}, Days: []int{10, 9}}
	w, _ := script.New(e, p, nil, api.Owners{}, q, 9)
	w = do(t, w, act(api.ActTry, 0), act(api.ActDay, 10))
	fails(t, "a forbidden suite", w, act(api.ActTry, 0), api.ErrForbid)
	back := do(t, w, act(api.ActUndo, 1))
	if !estate.Same(script.Actual(back), e) || back.Run.Steps[1] != api.StepUndone || decisions(back) != "9 0 3 1 1 10 0 3 1 0 " {
		t.Error(back.Run, decisions(back))
	}
	w = do(t, w, act(api.ActDay, 12))
	fails(t, "undone into what is forbidden", w, act(api.ActUndo, 1), api.ErrForbid)
}

func TestUndo(t *testing.T) {
	w := do(t, world(t, ""), act(api.ActDay, 20), act(api.ActTry, 0), act(api.ActTry, 0), act(api.ActTry, 0))
	if fmt.Sprint(w.Run.Steps) != "[1 1 0 1]" {
		t.Fatal(w.Run)
	}
	fails(t, "needed", w, act(api.ActUndo, 0), api.ErrNeed)
	fails(t, "not done", w, act(api.ActUndo, 2), api.ErrNeed)
	fails(t, "no step", w, act(api.ActUndo, 4), api.ErrNeed)
	v := do(t, w, act(api.ActUndo, 1))
	want, _ := estate.State(estate1(), renew().Changes, api.Set{0, 3})
	if !estate.Same(script.Actual(v), want) || v.Run.Steps[1] != api.StepUndone || !strings.HasSuffix(decisions(v), "20 0 3 1 0 ") {
		t.Error(v.Run, decisions(v))
	}
	fails(t, "stopped", do(t, w, seen("web", 20, api.FindMost, 4)), act(api.ActUndo, 9), api.ErrStop)
	v = do(t, v, act(api.ActTry, 0)) // what was undone is tried again
	if v.Run.Steps[1] != api.StepDone {
		t.Error(v.Run)
	}
}

func seen(host string, day, kind, number int) api.Act {
	return api.Act{Kind: api.ActObserve, Finding: api.Finding{Source: 6, Host: host, Day: day, Confidence: 90, Kind: kind, Subject: "tls", Number: number}}
}

func TestDriftAndObserve(t *testing.T) {
	w := world(t, "")
	c := api.Change{Endpoint: 7, Kind: api.SetMost, Number: 4}
	v := do(t, w, api.Act{Kind: api.ActDrift, Number: 1, Change: c})
	if script.Actual(v).Endpoints[1].Most != 4 || decisions(v) != "" || !runner.Same(v.Run, w.Run) {
		t.Error(v)
	}
	fails(t, "no host", w, api.Act{Kind: api.ActDrift, Number: 2, Change: c}, api.ErrNone)
	fails(t, "negative", w, api.Act{Kind: api.ActDrift, Number: -1, Change: c}, api.ErrNone)
	fails(t, "no change", w, api.Act{Kind: api.ActDrift, Number: 1}, api.ErrChange)
	for name, x := range map[string]struct {
		a       api.Act
		stopped bool
	}{"agrees": {seen("web", 5, api.FindMost, 3), false}, "contradicts": {seen("web", 5, api.FindMost, 4), true}, "on another day": {seen("web", 4, api.FindMost, 4), false}, "of another host": {seen("x", 5, api.FindMost, 4), false}} {
		v := do(t, w, x.a)
		want := ""
		if x.stopped {
			want = "5 1 4 0 1 "
		}
		if v.Run.Stopped != x.stopped || decisions(v) != want || len(v.Findings) != 1 {
			t.Errorf("%s: %v, %s", name, v.Run, decisions(v))
		}
	}
	v = do(t, w, seen("web", 5, api.FindMost, 4), seen("web", 5, api.FindMost, 2), seen("web", 5, api.FindMost, 2))
	if !v.Run.Stopped || !strings.HasPrefix(decisions(v), "5 1 4 0 1 ") || len(v.Findings) != 2 {
		t.Error(v.Run, decisions(v))
	}
	fails(t, "no finding", w, api.Act{Kind: api.ActObserve}, api.ErrFinding)
	full := w
	for i := range 400 {
		full = do(t, full, seen("a", i, api.FindMost, 4))
	}
	fails(t, "too many", full, seen("web", 5, api.FindMost, 4), api.ErrLimit)
}

func TestCrashAndResume(t *testing.T) {
	w := do(t, world(t, ""), act(api.ActDay, 20), act(api.ActTry, 1), act(api.ActTry, 0), act(api.ActTry, 0), act(api.ActTry, 0))
	if fmt.Sprint(w.Run.Steps, len(w.Journal)) != "[1 1 0 1] 36" {
		t.Fatal(w.Run)
	}
	v := do(t, w, act(api.ActCrash, 100))
	if fmt.Sprint(v.Run.Steps, v.Run.Tries, v.Run.Stopped) != "[1 1 0 1] [0 0 0 0] false" || v.Journal != w.Journal {
		t.Error(v.Run)
	}
	for safe, want := range map[int]string{-1: "[0 0 0 0] true 0", 0: "[0 0 0 0] true 0", 23: "[1 0 0 0] true 12", 24: "[1 0 0 1] true 24", 35: "[1 0 0 1] true 24", 36: "[1 1 0 1] false 36"} {
		v := do(t, w, act(api.ActCrash, safe))
		if got := fmt.Sprint(v.Run.Steps, v.Run.Stopped, len(v.Journal)); got != want || v.Run.Day != 20 {
			t.Errorf("%d: %s", safe, got)
		}
		if l, _ := journal.Replay(v.Journal); !ledger.Same(l, v.Ledger) || len(l.Decisions)*12 != len(v.Journal) {
			t.Errorf("%d: %v", safe, l)
		}
	}
	undone := do(t, w, act(api.ActUndo, 3), act(api.ActCrash, 48)) // decided as well, with the value 0
	if fmt.Sprint(undone.Run.Steps, undone.Run.Stopped) != "[1 1 0 0] false" {
		t.Error(undone.Run)
	}
	lost := do(t, w, act(api.ActCrash, 24))
	fails(t, "not in step", lost, act(api.ActResume, 0), api.ErrModel)
	fails(t, "goes on", w, act(api.ActResume, 0), api.ErrStop)
	// An identity that was lost is taken away by somebody: then the world is in step again.
	mended := do(t, lost, api.Act{Kind: api.ActDrift, Number: 1, Change: api.Change{Kind: api.DropIdentity, Number: 2}}, act(api.ActResume, 0))
	if mended.Run.Stopped {
		t.Error(mended.Run)
	}
	stopped := do(t, w, seen("web", 20, api.FindMost, 4), act(api.ActCrash, 48))
	if !stopped.Run.Stopped || decisions(stopped) != decisions(w)+"20 1 4 0 1 " {
		t.Error(decisions(stopped))
	}
	if again := do(t, stopped, act(api.ActResume, 0)); again.Run.Stopped {
		t.Error("it stays stopped")
	}
}

func TestFullLedger(t *testing.T) {
	w := do(t, world(t, ""), act(api.ActDay, 10))
	for range 64 {
		w = do(t, w, act(api.ActTry, 0), act(api.ActUndo, 0))
	}
	if len(w.Ledger.Decisions) != 128 {
		t.Fatal(len(w.Ledger.Decisions))
	}
	fails(t, "full", w, act(api.ActTry, 0), api.ErrLimit)
	fails(t, "full for a stop", w, seen("web", 10, api.FindMost, 4), api.ErrLimit)
	do(t, w, act(api.ActTry, api.FaultFail))
}

func TestRun(t *testing.T) {
	l := []api.Act{act(api.ActTry, 0), act(api.ActDay, 10), act(api.ActTry, 0), {}, act(api.ActTry, 0), act(api.ActDay, 30), act(api.ActTry, 0), act(api.ActTry, 0)}
	start := world(t, "")
	w, errs := script.Run(start, l)
	if fmt.Sprint(errs) != "[4 0 0 60 0 0 0 0]" || !runner.Finished(w.Run) || !estate.Same(start.Estate, w.Estate) {
		t.Error(errs, w.Run)
	}
	model, _ := script.Model(w)
	if !estate.Same(model, script.Actual(w)) || decisions(w) != "10 0 3 0 1 10 0 3 3 1 30 0 3 1 1 30 0 3 2 1 " {
		t.Error(decisions(w))
	}
	if again, _ := script.Run(start, l); !script.Same(again, w) || !script.Same(start, world(t, "")) {
		t.Error("the same acts")
	}
	if w, errs := script.Run(start, nil); !script.Same(w, start) || len(errs) != 0 {
		t.Error(errs)
	}
}

func TestPrintAndParse(t *testing.T) {
	l := []api.Act{act(api.ActDay, -7), act(api.ActTry, 2), act(api.ActUndo, 1), {Kind: api.ActDrift, Number: 1, Change: api.Change{Endpoint: 2, Kind: 99, Number: -3, At: 4}}, seen("web", 5, api.FindMost, 4), act(api.ActCrash, 24), act(api.ActResume, 0)}
	peer := seen("web", 5, api.FindPeer, 0)
	peer.Finding.Text, peer.Finding.Machine = "db", 77
	use := seen("web", 5, api.FindUse, 0)
	use.Finding.Use = rsa
	l = append(l, peer, use)
	s, e := script.Print(l)
	if lines := strings.Split(s, "\n"); len(lines) != 10 || strings.Join(slices.Concat(lines[:4], lines[5:8]), "; ") != "1 -7; 2 2; 3 1; 4 1 2 99 -3 4; 6 24; 7 0; 5 0 5 77 90 6 7 0 0 0 web tls db" || !strings.HasPrefix(lines[4], "5 0 5 0 90 6 4 4 0 0 web tls") || !strings.HasPrefix(lines[8], "5 0 5 0 90 6 1 0 5 2048 web tls") || e != api.OK {
		t.Errorf("%q, %v", s, e)
	}
	m, n, e := script.Parse(s)
	if n != 0 || e != api.OK || len(m) != len(l) {
		t.Fatal(m, n, e)
	}
	if again, _ := script.Print(m); again != s {
		t.Errorf("%q", again)
	}
	if m, n, e := script.Parse(""); len(m) != 0 || n != 0 || e != api.OK {
		t.Error(m, n, e)
	}
	for name, a := range map[string]api.Act{"kind": {}, "kind 8": act(8, 1), "fields": {Kind: 1, Change: api.Change{At: 1}}, "identity": {Kind: api.ActDrift, Change: api.Change{Identity: api.Identity{KeyId: 1}}}, "finding": {Kind: api.ActObserve}, "number": {Kind: api.ActResume, Number: 1}} {
		if s, e := script.Print([]api.Act{act(1, 1), a}); s != "" || e != api.ErrAct {
			t.Errorf("%s: %q, %v", name, s, e)
		}
	}
	if s, e := script.Print(make([]api.Act, 201)); s != "" || e != api.ErrLimit {
		t.Error(s, e)
	}
	if _, e := script.Print(slices.Repeat(l[:1], 200)); e != api.OK {
		t.Error(e)
	}
}

func TestParseErrors(t *testing.T) {
	for s, want := range map[string]int{
		"1": 1, "1 5": 1, "1 5\n2 1": 2, "1 5\n\n": 2, "\n": 1, "1\n": 1, "1  5\n": 1, " 1 5\n": 1, "1 5 \n": 1, "1 05\n": 1, "1 +5\n": 1, "1 x\n": 1, "0 5\n": 1, "8 5\n": 1, "7 1\n": 1, "1 5 6\n": 1,
		"4 1 2 3 4\n": 1, "4 1 2 3 4 5 6\n": 1, "4 1\n": 1, "4 1 2 3 x 5\n": 1, "5 0\n": 1, "5 1 5 0 90 6 4 4 0 0 web tls \n": 1, "5 0 5 0 90 6 4 9 0 0 web tls \n": 1, "5 0 5 0 90 6 4 4 0 0 web tls x\n": 1, "1 99999999999999999999\n": 1, "1 5\r\n": 1,
	} {
		if l, n, e := script.Parse(s); l != nil || n != want || e != api.ErrLine {
			t.Errorf("%q: %v, %d, %v", s, l, n, e)
		}
	}
	for s, want := range map[string]api.Errno{strings.Repeat("1 5\n", 200): api.OK, strings.Repeat("1 5\n", 201): api.ErrLimit, strings.Repeat("1 5\n", 200) + "1": api.ErrLimit, strings.Repeat("x", 8193): api.ErrLimit, strings.Repeat("x", 8192): api.ErrLine} {
		if _, n, e := script.Parse(s); e != want || e == api.ErrLimit && n != 0 {
			t.Errorf("%.9q: %d, %v", s, n, e)
		}
	}
}

func TestSame(t *testing.T) {
	full := func() api.World {
		w := do(t, world(t, "forbid rc4"), act(api.ActDay, 10), act(api.ActTry, 0), seen("web", 5, api.FindMost, 3))
		w.Exceptions, w.Owners = []api.Exception{{Seals: []api.Seal{{Key: 1}}}}, api.Owners{Keys: []int{1}, Need: 1}
		return w
	}
	for i, change := range []func(w *api.World){
		func(w *api.World) { w.Estate.Edges = nil }, func(w *api.World) { w.Hosts[0].Before = nil }, func(w *api.World) { w.Policy.Rules[0].Alg = 1 }, func(w *api.World) { w.Exceptions[0].Seals[0].Key = 2 }, func(w *api.World) { w.Exceptions[0].Endpoint = "x" },
		func(w *api.World) { w.Owners.Keys[0] = 2 }, func(w *api.World) { w.Owners.Need = 2 }, func(w *api.World) { w.Findings[0].Day = 9 }, func(w *api.World) { w.Run.Day = 99 }, func(w *api.World) { w.Ledger.Decisions[0].Value = 0 }, func(w *api.World) { w.Journal = "" },
	} {
		w := full()
		if change(&w); script.Same(w, full()) {
			t.Errorf("%d", i)
		}
	}
	if !script.Same(full(), full()) {
		t.Error("equal ones")
	}
}

// Without ActDrift a world whose run is not stopped is in step, and the ledger is what the journal has; no world makes Do panic.
func TestHistories(t *testing.T) {
	r := rand.New(rand.NewSource(34))
	for range 100 {
		w := world(t, "forbid rc4 from 25")
		for range 25 {
			a := []api.Act{act(api.ActDay, w.Run.Day+r.Intn(8)), act(api.ActTry, r.Intn(4)), act(api.ActTry, 0), act(api.ActUndo, r.Intn(4)), seen("web", w.Run.Day, api.FindMost, 3+r.Intn(2)), act(api.ActCrash, 12*r.Intn(8)), act(api.ActResume, 0)}[r.Intn(7)]
			w, _ = script.Do(w, a)
			model, e := script.Model(w)
			if e != api.OK || !w.Run.Stopped && !estate.Same(model, script.Actual(w)) || runner.Check(w.Run) != api.OK {
				t.Fatalf("%v: %v, %v", a, w.Run, e)
			}
			if l, _ := journal.Replay(w.Journal); !ledger.Same(l, w.Ledger) {
				t.Fatalf("%v: %v", l, w.Ledger)
			}
		}
	}
	for _, w := range []api.World{{Run: api.Run{Plan: renew()}}, {Hosts: []api.Host{{}}}, {Run: api.Run{Steps: []int{1}}}} {
		for kind := range 9 {
			script.Do(w, act(kind, 0))
			script.Do(w, seen("web", 5, api.FindMost, 4))
		}
		script.Model(w)
		script.Actual(w)
	}
	if !endpoint.Same(estate1().Endpoints[0], world(t, "").Hosts[0].Endpoint) {
		t.Error("hosts")
	}
}
