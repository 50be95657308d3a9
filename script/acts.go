package script

import (
	"slices"

	"cipherplan/api"
	"cipherplan/basic"
	"cipherplan/change"
	"cipherplan/estate"
	"cipherplan/finding"
	"cipherplan/host"
	"cipherplan/journal"
	"cipherplan/ledger"
	"cipherplan/order"
	"cipherplan/policy"
	"cipherplan/runner"
	"cipherplan/watch"
)

// formed reports whether an act is of a kind, and has only the fields of this kind.
func formed(a api.Act) bool {
	noChange, noFinding := change.Same(a.Change, api.Change{}), a.Finding == api.Finding{}
	switch a.Kind {
	case api.ActDrift:
		return noFinding
	case api.ActObserve:
		return noChange && a.Number == 0
	case api.ActResume:
		return noChange && noFinding && a.Number == 0
	}
	return basic.In(a.Kind, 1, api.Acts) && noChange && noFinding
}

// decide puts a decision into the ledger and the journal.
func decide(w api.World, kind, subject, value int) (api.World, api.Errno) {
	d := api.Decision{Day: w.Run.Day, Known: len(w.Findings), Kind: kind, Subject: subject, Value: value}
	var err api.Errno
	if w.Ledger, err = ledger.Add(w.Ledger, d); err != api.OK {
		return w, err
	}
	w.Journal, err = journal.Append(w.Journal, d)
	return w, err
}

func day(w api.World, a api.Act) (api.World, api.Errno) {
	var err api.Errno
	w.Run, err = runner.Advance(w.Run, a.Number)
	return w, err
}

// states returns the model, and what it would be with other steps done, if the rules permit to go there.
func states(w api.World, done api.Set) (api.Estate, api.Estate, api.Errno) {
	before, err := Model(w)
	if err != api.OK {
		return before, before, err
	}
	after, err := estate.State(w.Estate, w.Run.Plan.Changes, done)
	if err != api.OK {
		return before, after, err
	}
	named, err := policy.Step(before, after, w.Policy, w.Exceptions, w.Owners, w.Run.Day)
	if err == api.OK && len(named) > 0 {
		err = api.ErrForbid
	}
	return before, after, err
}

func try(w api.World, a api.Act) (api.World, api.Errno) {
	if w.Run.Stopped {
		return w, api.ErrStop
	}
	step, ok := runner.Next(w.Run)
	if !ok {
		return w, api.ErrNone
	}
	if !basic.In(a.Number, 0, api.FaultKinds) {
		return w, api.ErrRange
	}
	done := append(runner.Done(w.Run), step)
	slices.Sort(done)
	before, after, err := states(w, done)
	if err != api.OK {
		return w, err
	}
	end := w.Run.Plan.Changes[step].Endpoint
	if w.Hosts[end], _, err = host.Try(w.Hosts[end], after.Endpoints[end], a.Number); err != api.OK {
		return w, err
	}
	w.Run, err = runner.Report(w.Run, step, before.Endpoints[end], after.Endpoints[end], w.Hosts[end].Endpoint)
	switch {
	case err != api.OK:
		return w, err
	case w.Run.Steps[step] == api.StepDone:
		return decide(w, api.DecideChange, step, 1)
	case w.Run.Stopped:
		return decide(w, api.DecideStop, 0, 1)
	}
	return w, api.OK
}

func undo(w api.World, a api.Act) (api.World, api.Errno) {
	run, err := runner.Undo(w.Run, a.Number)
	if err != api.OK {
		return w, err
	}
	_, after, err := states(w, runner.Done(run))
	if err != api.OK {
		return w, err
	}
	end := w.Run.Plan.Changes[a.Number].Endpoint
	if w.Hosts[end], _, err = host.Try(w.Hosts[end], after.Endpoints[end], api.FaultNone); err != api.OK {
		return w, err
	}
	w.Run = run
	return decide(w, api.DecideChange, a.Number, 0)
}

func drift(w api.World, a api.Act) (api.World, api.Errno) {
	if !basic.In(a.Number, 0, len(w.Hosts)-1) {
		return w, api.ErrNone
	}
	var err api.Errno
	w.Hosts[a.Number], err = host.Drift(w.Hosts[a.Number], a.Change)
	return w, err
}

func observe(w api.World, a api.Act) (api.World, api.Errno) {
	var err api.Errno
	if w.Findings, err = finding.Merge(w.Findings, []api.Finding{a.Finding}); err != api.OK {
		return w, err
	}
	model, err := Model(w)
	if err != api.OK {
		return w, err
	}
	i, there := estate.Index(model, a.Finding.Host)
	if !there || a.Finding.Day != w.Run.Day || !watch.Contradicts(model.Endpoints[i], a.Finding) || w.Run.Stopped {
		return w, api.OK
	}
	w.Run = runner.Stop(w.Run, true)
	return decide(w, api.DecideStop, 0, 1)
}

func crash(w api.World, a api.Act) (api.World, api.Errno) {
	w.Journal = journal.Whole(journal.Crash(w.Journal, a.Number, ""))
	w.Ledger, _ = journal.Replay(w.Journal)
	for i := range w.Run.Steps {
		w.Run.Steps[i], w.Run.Tries[i] = api.StepWaiting, 0
		if d, ok := ledger.Latest(w.Ledger, api.DecideChange, i, api.MaxDay); ok && d.Value == 1 {
			w.Run.Steps[i] = api.StepDone
		}
	}
	closed, err := order.Closed(len(w.Run.Steps), w.Run.Plan.Required, runner.Done(w.Run))
	if err != api.OK || !closed {
		return w, api.ErrSet
	}
	w.Run = runner.Stop(w.Run, w.Run.Stopped || !inStep(w))
	return w, api.OK
}

func resume(w api.World, _ api.Act) (api.World, api.Errno) {
	if !w.Run.Stopped {
		return w, api.ErrStop
	}
	if _, err := Model(w); err != api.OK {
		return w, err
	}
	if !inStep(w) {
		return w, api.ErrModel
	}
	w.Run = runner.Stop(w.Run, false)
	return w, api.OK
}
