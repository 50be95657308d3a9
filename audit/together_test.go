package audit_test

import (
	"math/rand"
	"slices"
	"testing"

	"cipherplan/api"
	"cipherplan/audit"
	"cipherplan/certificate"
	"cipherplan/conversation"
	"cipherplan/estate"
	"cipherplan/exception"
	"cipherplan/finding"
	"cipherplan/identity"
	"cipherplan/job"
	"cipherplan/journal"
	"cipherplan/ledger"
	"cipherplan/planner"
	"cipherplan/renewal"
	"cipherplan/reopen"
	"cipherplan/rule"
	"cipherplan/runner"
	"cipherplan/script"
)

// All layers together, from a plan to its end: T6 to T9.

func key(id, anchor int) api.Identity {
	rsa := api.Use{Alg: api.RSA, Bits: 2048}
	c, _ := certificate.Sign(api.Certificate{Issuer: "root", Subject: "web", Key: rsa, KeyId: id, Hash: api.Use{Alg: api.SHA256}, From: 0, To: 300, Names: []string{"web"}}, anchor)
	return api.Identity{Key: rsa, KeyId: id, Chain: []api.Certificate{c}}
}

func organisation() api.Estate {
	client := func(name string) api.Endpoint {
		return api.Endpoint{Name: name, Least: 1, Most: 3, Suites: []int{2, 10}, Anchors: []int{9}, Hashes: []int{3}, Fallback: true}
	}
	web := api.Endpoint{Name: "web", Least: 1, Most: 3, Suites: []int{2}, Identities: []api.Identity{key(1, 9)}}
	item := api.Item{Name: "log", Kind: api.ItemSigned, Purpose: api.PurposeSign, Links: []api.Link{{Use: api.Use{Alg: api.MD5}, Day: 1}}, Until: 200}
	return api.Estate{Endpoints: []api.Endpoint{client("app"), client("db"), web}, Edges: []api.Edge{{Client: 0, Server: 2}, {Client: 1, Server: 2}}, Items: []api.Item{item}}
}

func policy(t *testing.T) api.Policy {
	p, n, e := rule.Parse("forbid rc4 from 60\nforbid md5 from 30")
	if e != api.OK {
		t.Fatal(n, e)
	}
	return p
}

// changes takes rc4 away everywhere, and puts web under another anchor.
func changes() []api.Change {
	return []api.Change{
		{Endpoint: 0, Kind: api.DropSuite, Number: 2}, {Endpoint: 1, Kind: api.DropSuite, Number: 2}, {Endpoint: 2, Kind: api.DropSuite, Number: 2},
		{Endpoint: 2, Kind: api.AddSuite, Number: 10}, {Endpoint: 2, Kind: api.AddIdentity, Identity: key(2, 8)},
		{Endpoint: 0, Kind: api.AddAnchor, Number: 8}, {Endpoint: 1, Kind: api.AddAnchor, Number: 8},
	}
}

func calendar() api.Calendar {
	c := api.Calendar{Team: []int{0, 0, 1}, Room: []int{2, 1}}
	for i := range 12 {
		c.Windows = append(c.Windows, api.Window{Days: api.Span{From: 5 * i, To: 5*i + 3}, Teams: []int{0, 1}})
	}
	return c
}

func planned(t *testing.T) api.World {
	e := organisation()
	p, f, err := planner.Make(e, calendar(), changes(), policy(t), nil, api.Owners{}, 5, 250)
	if err != api.OK || len(f.Cases) == 0 {
		t.Fatal(err)
	}
	w, err := script.New(e, policy(t), nil, api.Owners{}, p, 5)
	if err != api.OK {
		t.Fatal(err)
	}
	return w
}

func observed(host string, day, kind int, u api.Use, number int) api.Act {
	return api.Act{Kind: api.ActObserve, Finding: api.Finding{Source: 6, Host: host, Machine: 3, Day: day, Confidence: 90, Kind: kind, Subject: "tls", Use: u, Number: number}}
}

// Under any failures, rollbacks and crashes each required pair has a method that both allow, and nothing forbidden is enabled.
func TestStatesAndSteps(t *testing.T) {
	r := rand.New(rand.NewSource(36))
	for range 20 {
		w := planned(t)
		for range 40 {
			before := w
			a := []api.Act{act(api.ActDay, w.Run.Day+r.Intn(3)), act(api.ActTry, r.Intn(4)), act(api.ActTry, 0), act(api.ActUndo, r.Intn(7)), act(api.ActCrash, len(w.Journal)-r.Intn(20)), act(api.ActResume, 0)}[r.Intn(6)]
			next, b := audit.History(w, []api.Act{a})
			if b != (api.Breach{}) {
				t.Fatalf("%v: %v", a, b)
			}
			w = next
			if broken, e := audit.Keeps(w, 250); len(broken) > 0 || e != api.OK {
				t.Fatalf("%v: %v, %v", a, broken, e)
			}
			for edge := range w.Estate.Edges {
				if m, e := conversation.Methods(script.Actual(w), edge, w.Run.Day); len(m) == 0 || e != api.OK {
					t.Fatalf("%v: %v, %v", a, m, e)
				}
			}
			if named, e := audit.Forbidden(before, w); len(named) > 0 || e != api.OK {
				t.Fatalf("%v: %v, %v", a, named, e)
			}
		}
	}
}

// finish tries all steps, day by day.
func finish(t *testing.T, w api.World) api.World {
	for !runner.Finished(w.Run) {
		l := []api.Act{act(api.ActTry, 0)}
		if _, ok := runner.Next(w.Run); !ok {
			l = []api.Act{act(api.ActDay, w.Run.Day+1)}
		}
		next, b := audit.History(w, l)
		if b != (api.Breach{}) || w.Run.Day > 100 {
			t.Fatal(b, w.Run.Day)
		}
		w = next
	}
	return w
}

func TestGone(t *testing.T) {
	w := finish(t, planned(t))
	w, _ = script.Run(w, []api.Act{act(api.ActDay, 80)})
	if e := audit.Ended(w, 10, 100, api.RC4); e != api.OK {
		t.Error(e)
	}
	w, _ = script.Run(w, []api.Act{observed("web", 70, api.FindUse, rc4, 0)})
	if e := audit.Ended(w, 10, 100, api.RC4); e != api.ErrMethod {
		t.Error(e)
	}
	x, _ := exception.Sign(api.Exception{Use: rc4, Purpose: api.PurposeTransport, Endpoint: "web", Days: api.Span{From: 70, To: 90}}, 1)
	w.Exceptions, w.Owners = []api.Exception{x}, api.Owners{Keys: []int{1}, Need: 1}
	if e := audit.Ended(w, 10, 100, api.RC4); e != api.OK {
		t.Error(e)
	}
	p := policy(t)
	links, e := renewal.Schedule(p, w.Estate.Items[0], []api.Use{{Alg: api.SHA256}}, 10)
	var jobs []api.Job
	for _, l := range links {
		jobs = append(jobs, api.Job{Link: l})
	}
	after, n, f := job.All(w.Estate, p, jobs)
	due, _ := job.Due(after, p)
	lost, _ := job.Lost(after, p)
	if e != api.OK || f != api.OK || n != 1 || len(due)+len(lost) > 0 {
		t.Error(links, n, due, lost)
	}
}

func TestRuns(t *testing.T) {
	w := planned(t)
	w, _ = script.Run(w, []api.Act{act(api.ActTry, 0), act(api.ActTry, 0), act(api.ActDay, 6)})
	safe := len(w.Journal)
	if safe == 0 {
		t.Fatal("nothing was done")
	}
	stopped, _ := script.Run(w, []api.Act{observed("web", 6, api.FindSuite, api.Use{}, 13)})
	if !stopped.Run.Stopped {
		t.Error("what contradicts the model does not stop the run")
	}
	for n := range safe + 1 {
		left, e := script.Do(w, act(api.ActCrash, n))
		l, _ := journal.Replay(w.Journal[:n])
		if e != api.OK || !ledger.Same(left.Ledger, l) || len(l.Decisions) != n/12 {
			t.Errorf("%d: %v, %v", n, left.Ledger, e)
		}
		model, _ := script.Model(left)
		if lost := !estate.Same(model, script.Actual(left)); lost != left.Run.Stopped || lost == (n == safe) {
			t.Errorf("%d: %v", n, left.Run)
		}
	}
	// A late finding about db re-opens its edge, and not that of app.
	l, _ := finding.Norm([]api.Finding{observed("app", 5, api.FindMost, api.Use{}, 3).Finding, observed("db", 5, api.FindLeast, api.Use{}, 1).Finding})
	l[0].Machine, l[1].Machine = 1, 2
	late := observed("db", 6, api.FindUse, rc4, 0).Finding
	touched, e := reopen.Touch(w.Estate, w.Run.Plan, w.Ledger, l, 3, late)
	if e != api.OK || !slices.Equal(touched.Endpoints, []int{1}) || !slices.Equal(touched.Edges, []int{1}) || !slices.Equal(touched.Changes, []int{1, 6}) {
		t.Error(touched, e)
	}
	if numbers, _ := identity.Touched(l, 3, late); !slices.Equal(numbers, []int{1}) {
		t.Error(numbers)
	}
}
