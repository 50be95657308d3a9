package audit_test

import (
	"fmt"
	"math/rand"
	"slices"
	"testing"

	"cipherplan/api"
	"cipherplan/audit"
	"cipherplan/certificate"
	"cipherplan/exception"
	"cipherplan/journal"
	"cipherplan/ledger"
	"cipherplan/proof"
	"cipherplan/rule"
	"cipherplan/script"
)

var (
	rsa = api.Use{Alg: api.RSA, Bits: 2048}
	rc4 = api.Use{Alg: api.RC4, Bits: 128}
)

func shown(key, anchor int) api.Identity {
	c, _ := certificate.Sign(api.Certificate{Issuer: "root", Subject: "web", Key: rsa, KeyId: key, Hash: api.Use{Alg: api.SHA256}, From: 0, To: 100, Names: []string{"web"}}, anchor)
	return api.Identity{Key: rsa, KeyId: key, Chain: []api.Certificate{c}}
}

func estate1() api.Estate {
	app := api.Endpoint{Name: "app", Least: 1, Most: 3, Suites: []int{10, 2}, Anchors: []int{9}, Hashes: []int{3}}
	web := api.Endpoint{Name: "web", Least: 1, Most: 3, Suites: []int{2}, Identities: []api.Identity{shown(1, 9)}}
	return api.Estate{Endpoints: []api.Endpoint{app, web}, Edges: []api.Edge{{Client: 0, Server: 1}}}
}

// leave: web gets the suite 10, and leaves the suite 2, of which rc4 is.
func leave() api.Plan {
	return api.Plan{
		Changes:  []api.Change{{Endpoint: 1, Kind: api.AddSuite, Number: 10}, {Endpoint: 1, Kind: api.DropSuite, Number: 2}, {Endpoint: 0, Kind: api.DropSuite, Number: 2}},
		Required: []api.Required{{First: 0, Then: 1}, {First: 1, Then: 2}},
		Days:     []int{10, 20, 30},
	}
}

func world(text string) api.World {
	p, n, e := rule.Parse(text)
	w, f := script.New(estate1(), p, nil, api.Owners{}, leave(), 10)
	if e != api.OK || f != api.OK {
		panic(fmt.Sprint(n, e, f))
	}
	return w
}

func act(kind, number int) api.Act { return api.Act{Kind: kind, Number: number} }

func drift(at int, c api.Change) api.Act {
	return api.Act{Kind: api.ActDrift, Number: at, Change: c}
}

func run(w api.World, l ...api.Act) api.World {
	w, _ = script.Run(w, l)
	return w
}

func TestCheck(t *testing.T) {
	later := run(world(""), act(api.ActTry, 0), act(api.ActDay, 20))
	if audit.Check(api.World{}) != 0 || audit.Check(world("")) != 0 || audit.Check(later) != 0 {
		t.Error("worlds of Do")
	}
	write := func(w *api.World, d api.Decision) {
		w.Ledger, _ = ledger.Add(w.Ledger, d)
		w.Journal, _ = journal.Append(w.Journal, d)
	}
	for name, x := range map[string]struct {
		change func(w *api.World)
		want   int
	}{
		"steps":           {func(w *api.World) { w.Run.Steps = nil }, 1},
		"no step":         {func(w *api.World) { w.Run.Steps[0] = 9 }, 1},
		"not closed":      {func(w *api.World) { w.Run.Steps = []int{0, 0, 1} }, 1},
		"host":            {func(w *api.World) { w.Hosts[0].Endpoint.Most = 2 }, 2},
		"stopped":         {func(w *api.World) { w.Hosts[0].Endpoint.Most, w.Run.Stopped = 2, true }, 0},
		"steps and hosts": {func(w *api.World) { w.Run.Steps[0] = api.StepWaiting }, 2},
		"journal":         {func(w *api.World) { w.Journal = w.Journal[:11] }, 3},
		"more journal":    {func(w *api.World) { w.Journal += "x" }, 3},
		"ledger":          {func(w *api.World) { w.Ledger.Decisions = nil }, 3},
		"bad ledger":      {func(w *api.World) { w.Ledger.Decisions[0].Day = -1 }, 3},
		"left out": {func(w *api.World) {
			s, _ := journal.Encode(api.Decision{Day: 1, Kind: 1})
			w.Journal += s
		}, 0},
		"undone":       {func(w *api.World) { write(w, api.Decision{Day: 20, Kind: api.DecideChange}) }, 4},
		"another step": {func(w *api.World) { write(w, api.Decision{Day: 20, Kind: api.DecideChange, Subject: 2, Value: 1}) }, 4},
		"no decision":  {func(w *api.World) { w.Ledger.Decisions, w.Journal = nil, "" }, 4},
		"stopped, not decided": {func(w *api.World) {
			w.Run.Stopped, w.Run.Steps[0] = true, api.StepFailed
		}, 4},
	} {
		w := run(world(""), act(api.ActTry, 0), act(api.ActDay, 20))
		x.change(&w)
		if got := audit.Check(w); got != x.want {
			t.Errorf("%s: %d", name, got)
		}
	}
}

func TestHistory(t *testing.T) {
	all := []api.Act{act(api.ActTry, 1), act(api.ActTry, 0), act(api.ActDay, 20), {}, act(api.ActTry, 2), act(api.ActUndo, 1), act(api.ActTry, 0), act(api.ActDay, 30), act(api.ActTry, 0)}
	w, b := audit.History(world("forbid rc4"), all)
	if want := run(world("forbid rc4"), all...); b != (api.Breach{}) || !script.Same(w, want) {
		t.Error(b, w.Run)
	}
	// Somebody changes a host: the model is not what there is any more.
	odd := slices.Insert(slices.Clone(all), 3, drift(0, api.Change{Kind: api.SetMost, Number: 4}))
	w, b = audit.History(world(""), odd)
	if want := run(world(""), odd[:4]...); b != (api.Breach{Rule: 2, Act: 3}) || !script.Same(w, want) {
		t.Error(b, w.Run)
	}
	if w, b := audit.History(api.World{}, nil); b != (api.Breach{}) || !script.Same(w, api.World{}) {
		t.Error(b)
	}
	if _, b := audit.History(api.World{}, []api.Act{act(api.ActDay, 5), act(api.ActTry, 0), act(api.ActCrash, 0), {}}); b != (api.Breach{}) {
		t.Error(b)
	}
	// The run is stopped, so that drift is no breach; a step that is not made by the model enables what is forbidden.
	p, _, _ := rule.Parse("forbid aesgcm from 15")
	e := estate1()
	e.Endpoints[1].Suites = []int{2, 10}
	q := api.Plan{Changes: []api.Change{{Endpoint: 1, Kind: api.SetMost, Number: 4}}, Days: []int{10}}
	start, _ := script.New(e, p, nil, api.Owners{}, q, 10)
	stop := api.Act{Kind: api.ActObserve, Finding: api.Finding{Source: 6, Host: "web", Day: 10, Confidence: 90, Kind: api.FindMost, Subject: "tls", Number: 2}}
	acts := []api.Act{stop, drift(1, api.Change{Kind: api.DropSuite, Number: 10}), act(api.ActDay, 15), drift(1, api.Change{Kind: api.AddSuite, Number: 10, At: 1}), act(api.ActResume, 0), act(api.ActTry, 0)}
	if w, b := audit.History(start, acts); b != (api.Breach{}) || w.Run.Steps[0] != api.StepDone {
		t.Error(b, w.Run)
	}
}

// A drift is undone by a step within one act: what it had taken away comes back, and is forbidden.
func TestForbiddenStep(t *testing.T) {
	p, _, _ := rule.Parse("forbid rc4 from 15")
	e := estate1()
	e.Endpoints[1].Suites = []int{2, 10}
	q := api.Plan{Changes: []api.Change{{Endpoint: 1, Kind: api.SetOrder, Number: 1}}, Days: []int{10}}
	w, _ := script.New(e, p, nil, api.Owners{}, q, 15)
	w = run(w, drift(1, api.Change{Kind: api.DropSuite, Number: 2}))
	after := run(w, act(api.ActTry, 0))
	if l, err := audit.Forbidden(w, after); fmt.Sprint(l) != "[0]" || err != api.OK {
		t.Error(l, err)
	}
	if v, b := audit.History(w, []api.Act{act(api.ActTry, 0)}); b != (api.Breach{Rule: 5}) || !script.Same(v, after) {
		t.Error(b)
	}
	if l, err := audit.Forbidden(after, after); len(l) != 0 || err != api.OK {
		t.Error(l, err)
	}
	start, _ := script.New(e, p, nil, api.Owners{}, q, 14)
	early := run(start, drift(1, api.Change{Kind: api.DropSuite, Number: 2}))
	if l, err := audit.Forbidden(early, run(early, act(api.ActTry, 0))); len(l) != 0 || err != api.OK {
		t.Error(l, err)
	}
}

func TestKeeps(t *testing.T) {
	w := world("")
	for to, want := range map[int]string{50: "[]", 99: "[]", 100: "[0]", 0: "[]"} {
		if l, e := audit.Keeps(w, to); fmt.Sprint(l) != want || e != api.OK {
			t.Errorf("%d: %v, %v", to, l, e)
		}
	}
	late := run(w, act(api.ActDay, 100))
	if l, e := audit.Keeps(late, 50); fmt.Sprint(l) != "[0]" || e != api.OK {
		t.Error(l, e)
	}
	drifted := run(w, drift(0, api.Change{Kind: api.DropAnchor, Number: 9}))
	if l, e := audit.Keeps(drifted, 50); fmt.Sprint(l) != "[0]" || e != api.OK {
		t.Error(l, e)
	}
	for _, to := range []int{-1, 40001} {
		if l, e := audit.Keeps(w, to); l != nil || e != api.ErrRange {
			t.Error(l, e)
		}
	}
	if l, e := audit.Keeps(api.World{}, 0); len(l) != 0 || e != api.OK {
		t.Error(l, e)
	}
}

func found(day, kind int, u api.Use) api.Act {
	return api.Act{Kind: api.ActObserve, Finding: api.Finding{Source: 6, Host: "web", Day: day, Confidence: 90, Kind: kind, Subject: "tls", Use: u}}
}

func TestEnded(t *testing.T) {
	w := run(world(""), act(api.ActTry, 0), act(api.ActDay, 20), act(api.ActTry, 0))
	if e := audit.Ended(w, -1, -1, 0); e != api.ErrPlan {
		t.Error(e)
	}
	w = run(w, act(api.ActDay, 30), act(api.ActTry, 0))
	for alg, want := range map[int]api.Errno{api.RC4: api.OK, api.AESGCM: api.ErrMethod, 0: api.ErrUse} {
		if e := audit.Ended(w, 5, 50, alg); e != want {
			t.Errorf("%d: %v", alg, e)
		}
	}
	if e := audit.Ended(w, -1, 50, api.RC4); e != api.ErrRange {
		t.Error(e)
	}
	w = run(w, found(25, api.FindUse, rc4))
	if e := audit.Ended(w, 5, 50, api.RC4); e != api.ErrMethod {
		t.Error(e)
	}
	if e := audit.Ended(w, 5, 4, api.RC4); e != api.OK {
		t.Error(e)
	}
	x, _ := exception.Sign(api.Exception{Use: rc4, Purpose: 1, Endpoint: "web", Days: api.Span{From: 30, To: 40}}, 1)
	covered := w
	covered.Exceptions, covered.Owners = []api.Exception{x}, api.Owners{Keys: []int{1}, Need: 1}
	if e := audit.Ended(covered, 5, 50, api.RC4); e != api.OK {
		t.Error(e)
	}
	w = run(w, found(26, api.FindOff, rc4))
	if e := audit.Ended(w, 5, 50, api.RC4); e != api.OK {
		t.Error(e)
	}
}

// In no history without drift a rule is violated; with a proof no edge breaks.
func TestHistories(t *testing.T) {
	r := rand.New(rand.NewSource(35))
	if _, e := proof.Make(estate1(), leave(), 10, 90); e != api.OK {
		t.Fatal(e)
	}
	for range 100 {
		w := world([]string{"", "forbid rc4 from 25", "forbid aesgcm until 12"}[r.Intn(3)])
		var l []api.Act
		for range 30 {
			day := 10 + len(l)
			l = append(l, []api.Act{act(api.ActDay, day), act(api.ActTry, r.Intn(4)), act(api.ActTry, 0), act(api.ActUndo, r.Intn(3)), found(day, api.FindUse, rc4), act(api.ActCrash, 12*r.Intn(10)+r.Intn(2)), act(api.ActResume, 0)}[r.Intn(7)])
		}
		for i := range l {
			v, b := audit.History(w, l[i:i+1])
			if b != (api.Breach{}) {
				t.Fatalf("%v: %v", l[i], b)
			}
			if broken, e := audit.Keeps(v, 90); len(broken) > 0 || e != api.OK {
				t.Fatalf("%v: %v, %v", l[i], broken, e)
			}
			w = v
		}
	}
}
