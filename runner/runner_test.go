package runner_test

import (
	"fmt"
	"math/rand"
	"slices"
	"testing"

	"cipherplan/api"
	"cipherplan/order"
	"cipherplan/runner"
)

func r(first, then int) api.Required { return api.Required{First: first, Then: then} }

// some: four changes, of which 0 needs 1, and 3 needs 2.
func some() api.Plan {
	return api.Plan{Changes: make([]api.Change, 4), Required: []api.Required{r(1, 0), r(2, 3)}, Days: []int{7, 3, 3, 9}}
}

func run(day int, steps ...int) api.Run {
	x, _ := runner.New(some(), day)
	copy(x.Steps, steps)
	return x
}

func TestNewAndCheck(t *testing.T) {
	x, e := runner.New(some(), 5)
	if !runner.Same(x, api.Run{Plan: some(), Day: 5, Steps: make([]int, 4), Tries: make([]int, 4)}) || e != api.OK || runner.Check(x) != api.OK {
		t.Error(x, e)
	}
	if x, e := runner.New(api.Plan{}, 40000); e != api.OK || runner.Check(x) != api.OK || runner.Check(api.Run{}) != api.OK {
		t.Error(x, e)
	}
	for name, y := range map[string]struct {
		change func(p *api.Plan)
		day    int
		e      api.Errno
	}{
		"day":         {func(p *api.Plan) { p.Days = nil }, -1, api.ErrRange},
		"late day":    {func(p *api.Plan) {}, 40001, api.ErrRange},
		"days":        {func(p *api.Plan) { p.Days = p.Days[1:] }, 5, api.ErrPlan},
		"plan's day":  {func(p *api.Plan) { p.Days[0] = 40001 }, 5, api.ErrPlan},
		"negative":    {func(p *api.Plan) { p.Days[0] = -1 }, 5, api.ErrPlan},
		"25":          {func(p *api.Plan) { p.Changes, p.Days = make([]api.Change, 25), make([]int, 25) }, 5, api.ErrPlan},
		"requirement": {func(p *api.Plan) { p.Required[0].First = 9 }, 5, api.ErrPlan},
		"loop":        {func(p *api.Plan) { p.Required = []api.Required{r(0, 1), r(1, 0)} }, 5, api.ErrPlan},
	} {
		p := some()
		y.change(&p)
		if x, e := runner.New(p, y.day); !runner.Same(x, api.Run{}) || e != y.e {
			t.Errorf("%s: %v", name, e)
		}
	}
	for name, change := range map[string]func(x *api.Run){
		"steps": func(x *api.Run) { x.Steps = x.Steps[1:] }, "tries": func(x *api.Run) { x.Tries = nil }, "step": func(x *api.Run) { x.Steps[0] = 4 }, "negative step": func(x *api.Run) { x.Steps[0] = -1 },
		"many tries": func(x *api.Run) { x.Tries[0] = 5 }, "few tries": func(x *api.Run) { x.Tries[0] = -1 }, "day": func(x *api.Run) { x.Day = -1 }, "not closed": func(x *api.Run) { x.Steps[0] = api.StepDone },
	} {
		x := run(5)
		if change(&x); runner.Check(x) != api.ErrPlan {
			t.Errorf("%s: %v", name, runner.Check(x))
		}
	}
	good := run(5, api.StepDone, api.StepDone, api.StepFailed, api.StepUndone)
	good.Tries[2] = 4
	if runner.Check(good) != api.OK {
		t.Error(runner.Check(good))
	}
}

func TestDoneNextFinished(t *testing.T) {
	full := run(9)
	full.Tries[1] = 4
	stopped := run(9)
	stopped.Stopped = true
	for name, y := range map[string]struct {
		x    api.Run
		done string
		next string
	}{
		"too early": {run(2), "[]", "0 false"}, "first": {run(3), "[]", "1 true"}, "second": {run(6, 0, 1), "[1]", "2 true"}, "third": {run(9, 0, 1, 1), "[1 2]", "0 true"}, "by day": {run(9, 0, 1), "[1]", "2 true"},
		"failed": {run(3, 0, 2), "[]", "1 true"}, "undone": {run(9, 3, 1, 1, 1), "[1 2 3]", "0 true"}, "finished": {run(9, 1, 1, 1, 1), "[0 1 2 3]", "0 false"}, "tried": {full, "[]", "2 true"}, "stopped": {stopped, "[]", "0 false"},
	} {
		step, ok := runner.Next(y.x)
		if fmt.Sprint(runner.Done(y.x)) != y.done || fmt.Sprint(step, ok) != y.next || runner.Finished(y.x) != (name == "finished") {
			t.Errorf("%s: %v, %d, %v", name, runner.Done(y.x), step, ok)
		}
	}
	if !runner.Finished(api.Run{}) {
		t.Error("nothing to do")
	}
}

func TestReport(t *testing.T) {
	a, b, c := api.Endpoint{Name: "a"}, api.Endpoint{Name: "b"}, api.Endpoint{Name: "c"}
	for name, y := range map[string]struct {
		before, after, seen api.Endpoint
		step                int
		stopped             bool
	}{
		"done": {a, b, b, api.StepDone, false}, "failed": {a, b, a, api.StepFailed, false}, "no change": {a, a, a, api.StepDone, false}, "another": {a, b, c, api.StepUndone, true},
	} {
		x := run(3, 0, api.StepUndone)
		got, e := runner.Report(x, 1, y.before, y.after, y.seen)
		want := run(3, 0, y.step)
		want.Tries[1], want.Stopped = 1, y.stopped
		if !runner.Same(got, want) || e != api.OK || x.Tries[1] != 0 {
			t.Errorf("%s: %v, %v", name, got, e)
		}
	}
	tried := run(3)
	tried.Tries[1] = 4
	stopped := run(3)
	stopped.Stopped = true
	for name, y := range map[string]struct {
		x    api.Run
		step int
		e    api.Errno
	}{
		"stopped": {stopped, 99, api.ErrStop}, "tried": {tried, 1, api.ErrNeed}, "too early": {run(2), 1, api.ErrNeed}, "needs": {run(9), 0, api.ErrNeed}, "is done": {run(9, 0, 1), 1, api.ErrNeed}, "no step": {run(9), 4, api.ErrNeed}, "negative": {run(9), -1, api.ErrNeed},
	} {
		if got, e := runner.Report(y.x, y.step, a, b, b); !runner.Same(got, y.x) || e != y.e {
			t.Errorf("%s: %v, %v", name, got, e)
		}
	}
	x := run(3)
	for range 4 {
		x, _ = runner.Report(x, 1, a, b, a)
	}
	if step, ok := runner.Next(x); step != 2 || !ok || x.Tries[1] != 4 {
		t.Error(step, ok)
	}
}

func TestUndoAdvanceStop(t *testing.T) {
	x := run(9, 1, 1, 1)
	x.Tries[0] = 3
	got, e := runner.Undo(x, 0)
	if !runner.Same(got, run(9, 3, 1, 1)) || e != api.OK {
		t.Error(got, e)
	}
	stopped := runner.Stop(x, true)
	for name, y := range map[string]struct {
		x    api.Run
		step int
		e    api.Errno
	}{"needed": {x, 1, api.ErrNeed}, "not done": {x, 3, api.ErrNeed}, "no step": {x, 4, api.ErrNeed}, "negative": {x, -1, api.ErrNeed}, "stopped": {stopped, 9, api.ErrStop}} {
		if got, e := runner.Undo(y.x, y.step); !runner.Same(got, y.x) || e != y.e {
			t.Errorf("%s: %v, %v", name, got, e)
		}
	}
	for day, want := range map[int]api.Errno{8: api.ErrRange, 9: api.OK, 40000: api.OK, 40001: api.ErrRange} {
		got, e := runner.Advance(x, day)
		if e != want || e == api.OK && got.Day != day || e != api.OK && !runner.Same(got, x) {
			t.Errorf("%d: %v, %v", day, got, e)
		}
	}
	if !stopped.Stopped || x.Stopped || runner.Stop(stopped, false).Stopped || !runner.Same(runner.Stop(stopped, false), x) {
		t.Error("stop")
	}
	for i, change := range []func(x *api.Run){func(x *api.Run) { x.Plan.Days[0]++ }, func(x *api.Run) { x.Day++ }, func(x *api.Run) { x.Steps[0]++ }, func(x *api.Run) { x.Tries[0]++ }, func(x *api.Run) { x.Stopped = true }} {
		y := run(9)
		if change(&y); runner.Same(y, run(9)) {
			t.Errorf("%d", i)
		}
	}
}

// Done stays closed, whatever is reported and undone.
func TestDoneStaysClosed(t *testing.T) {
	rnd := rand.New(rand.NewSource(29))
	ends := []api.Endpoint{{Name: "a"}, {Name: "b"}, {Name: "c"}}
	for range 300 {
		x := run(3)
		for range 30 {
			step, ok := runner.Next(x)
			switch {
			case rnd.Intn(4) == 0:
				x, _ = runner.Undo(x, rnd.Intn(4))
			case ok:
				x, _ = runner.Report(x, step, ends[0], ends[1], ends[rnd.Intn(3)])
			default:
				x, _ = runner.Advance(runner.Stop(x, false), x.Day+1)
			}
			if closed, e := order.Closed(4, x.Plan.Required, runner.Done(x)); !closed || e != api.OK || runner.Check(x) != api.OK {
				t.Fatalf("%v", x)
			}
		}
	}
	if !slices.Equal(some().Days, []int{7, 3, 3, 9}) {
		t.Error("changed")
	}
}

func TestJustPermitted(t *testing.T) {
	x, e := runner.New(api.Plan{Changes: make([]api.Change, 24), Days: make([]int, 24)}, 0)
	if step, ok := runner.Next(x); step != 0 || !ok || e != api.OK || runner.Check(x) != api.OK {
		t.Error(step, ok, e)
	}
}
