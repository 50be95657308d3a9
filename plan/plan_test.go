package plan_test

import (
	"fmt"
	"math/rand"
	"slices"
	"testing"

	"cipherplan/api"
	"cipherplan/order"
	"cipherplan/plan"
)

func w(from, to int, teams ...int) api.Window {
	return api.Window{Days: api.Span{From: from, To: to}, Teams: teams}
}

func r(first, then int) api.Required { return api.Required{First: first, Then: then} }

func estate() api.Estate {
	return api.Estate{Endpoints: []api.Endpoint{{Name: "a", Least: 1, Most: 1}, {Name: "b", Least: 1, Most: 1}, {Name: "c", Least: 1, Most: 1}}}
}

// calendar: the team 0 has room for one change in a window, the team 1 for two.
func calendar() api.Calendar {
	return api.Calendar{Windows: []api.Window{w(0, 5, 0, 1), w(7, 9, 0, 1), w(12, 14, 0)}, Team: []int{0, 0, 1}, Room: []int{1, 2}}
}

func changes(at ...int) []api.Change {
	var l []api.Change
	for _, i := range at {
		l = append(l, api.Change{Endpoint: i})
	}
	return l
}

func TestTeams(t *testing.T) {
	if l, e := plan.Teams(calendar(), changes(2, 0, 1)); fmt.Sprint(l) != "[1 0 0]" || e != api.OK {
		t.Error(l, e)
	}
	bad := calendar()
	bad.Team[0] = 9
	for _, x := range []struct {
		c api.Calendar
		l []api.Change
		e api.Errno
	}{{bad, make([]api.Change, 25), api.ErrForm}, {calendar(), slices.Repeat(changes(9), 25), api.ErrLimit}, {calendar(), changes(0, 3), api.ErrChange}, {calendar(), changes(-1), api.ErrChange}} {
		if l, e := plan.Teams(x.c, x.l); l != nil || e != x.e {
			t.Error(l, e)
		}
	}
	if l, e := plan.Teams(calendar(), make([]api.Change, 24)); len(l) != 24 || e != api.OK {
		t.Error(l, e)
	}
}

func TestCheck(t *testing.T) {
	bad := estate()
	bad.Endpoints[0].Least = 0
	few := estate()
	few.Endpoints = few.Endpoints[:2]
	for name, x := range map[string]struct {
		e    api.Estate
		p    api.Plan
		want api.Errno
	}{
		"empty":    {estate(), api.Plan{}, api.OK},
		"good":     {estate(), api.Plan{Changes: changes(0, 2, 1), Required: []api.Required{r(0, 1), r(1, 2)}, Days: []int{0, 4, 7}}, api.OK},
		"estate":   {bad, api.Plan{Changes: changes(9)}, api.ErrEstate},
		"calendar": {few, api.Plan{Changes: changes(9)}, api.ErrForm},
		"endpoint": {estate(), api.Plan{Changes: changes(9)}, api.ErrChange},
		"many":     {estate(), api.Plan{Changes: make([]api.Change, 25)}, api.ErrLimit},
		"days":     {estate(), api.Plan{Changes: changes(0), Required: []api.Required{r(0, 9)}}, api.ErrPlan},
		"need":     {estate(), api.Plan{Changes: changes(0, 1), Required: []api.Required{r(0, 9)}, Days: []int{99, 99}}, api.ErrNeed},
		"order":    {estate(), api.Plan{Changes: changes(0, 1), Required: []api.Required{r(1, 0), r(0, 1)}, Days: []int{99, 99}}, api.ErrOrder},
		"loop":     {estate(), api.Plan{Changes: changes(0, 1), Required: []api.Required{r(0, 1), r(1, 0)}, Days: []int{99, 99}}, api.ErrLoop},
		"same day": {estate(), api.Plan{Changes: changes(0, 1), Required: []api.Required{r(0, 1)}, Days: []int{99, 99}}, api.ErrNeed},
		"window":   {estate(), api.Plan{Changes: changes(0, 2), Days: []int{0, 12}}, api.ErrWindow},
		"full":     {estate(), api.Plan{Changes: changes(0, 1), Days: []int{0, 4}}, api.ErrFull},
	} {
		if e := plan.Check(x.e, calendar(), x.p); e != x.want {
			t.Errorf("%s: %v", name, e)
		}
	}
}

func TestOrderDueLast(t *testing.T) {
	p := api.Plan{Changes: changes(0, 0, 0, 0), Required: []api.Required{r(1, 0), r(2, 3)}, Days: []int{7, 3, 3, 9}}
	if l := plan.Order(p); fmt.Sprint(l) != "[1 2 0 3]" || plan.Order(api.Plan{}) != nil {
		t.Error(l)
	}
	if plan.Last(p) != 9 || plan.Last(api.Plan{}) != -1 {
		t.Error("last")
	}
	for _, x := range []struct {
		done api.Set
		day  int
		want string
		e    api.Errno
	}{{nil, 2, "[]", api.OK}, {nil, 3, "[1 2]", api.OK}, {nil, 99, "[1 2]", api.OK}, {api.Set{1}, 6, "[2]", api.OK}, {api.Set{1}, 7, "[0 2]", api.OK}, {api.Set{1, 2}, 9, "[0 3]", api.OK}, {api.Set{0}, 9, "[]", api.ErrSet}, {api.Set{2, 1}, 9, "[]", api.ErrSet}, {api.Set{4}, 9, "[]", api.ErrSet}} {
		if s, e := plan.Due(p, x.done, x.day); fmt.Sprint(s) != x.want || e != x.e {
			t.Errorf("%v: %v, %v", x, s, e)
		}
	}
}

func TestSchedule(t *testing.T) {
	for name, x := range map[string]struct {
		l    []api.Change
		r    []api.Required
		from int
		want string
		e    api.Errno
	}{
		"two of a team":  {changes(0, 1), nil, 0, "[0 7]", api.OK},
		"two teams":      {changes(0, 2), nil, -3, "[0 0]", api.OK},
		"one after one":  {changes(2, 2), []api.Required{r(1, 0)}, 0, "[1 0]", api.OK},
		"next window":    {changes(2, 2), []api.Required{r(1, 0)}, 4, "[7 4]", api.OK},
		"from":           {changes(0, 1), nil, 8, "[8 12]", api.OK},
		"least first":    {changes(0, 1, 2), []api.Required{r(2, 0)}, 0, "[7 0 0]", api.OK},
		"too many":       {changes(0, 1, 0, 1), nil, 0, "[]", api.ErrNoPlan},
		"too late":       {changes(2), nil, 9, "[]", api.ErrNoPlan},
		"far too late":   {changes(2), nil, 50000, "[]", api.ErrNoPlan},
		"nothing":        {nil, nil, 0, "[]", api.OK},
		"loop":           {changes(0, 1), []api.Required{r(0, 1), r(1, 0)}, 0, "[]", api.ErrLoop},
		"change":         {changes(7), []api.Required{r(0, 1), r(1, 0)}, 0, "[]", api.ErrChange},
		"no requirement": {changes(0), []api.Required{r(0, 1)}, 0, "[]", api.ErrNeed},
	} {
		p, e := plan.Schedule(estate(), calendar(), x.l, x.r, x.from)
		if fmt.Sprint(p.Days) != x.want || e != x.e || e != api.OK && !plan.Same(p, api.Plan{}) {
			t.Errorf("%s: %v, %v", name, p, e)
		}
		if e == api.OK && (!plan.Same(p, api.Plan{Changes: x.l, Required: x.r, Days: p.Days}) || plan.Check(estate(), calendar(), p) != api.OK) {
			t.Errorf("%s: %v", name, p)
		}
	}
	bad := estate()
	bad.Endpoints[0].Least = 0
	if _, e := plan.Schedule(bad, api.Calendar{}, nil, nil, 0); e != api.ErrEstate {
		t.Error(e)
	}
	if _, e := plan.Schedule(estate(), api.Calendar{}, make([]api.Change, 30), nil, 0); e != api.ErrForm {
		t.Error(e)
	}
}

func TestSame(t *testing.T) {
	a := api.Plan{Changes: changes(0), Required: []api.Required{r(0, 1)}, Days: []int{1}}
	if !plan.Same(a, a) || plan.Same(a, api.Plan{Changes: a.Changes, Required: a.Required}) || plan.Same(a, api.Plan{Changes: a.Changes, Days: a.Days}) || plan.Same(a, api.Plan{Changes: changes(1), Required: a.Required, Days: a.Days}) {
		t.Error("same")
	}
}

// What Schedule returns is valid; what is due keeps the set closed when it is done.
func TestConsequences(t *testing.T) {
	rnd := rand.New(rand.NewSource(24))
	for range 500 {
		var l []api.Change
		for range 1 + rnd.Intn(4) {
			l = append(l, changes(rnd.Intn(3))...)
		}
		var needs []api.Required
		for i := range l {
			for j := range i {
				if rnd.Intn(3) == 0 {
					needs = append(needs, r(i, j))
				}
			}
		}
		slices.SortFunc(needs, func(a, b api.Required) int { return (a.First-b.First)*100 + a.Then - b.Then })
		p, e := plan.Schedule(estate(), calendar(), l, needs, rnd.Intn(6))
		if e == api.ErrNoPlan {
			continue
		}
		if plan.Check(estate(), calendar(), p) != api.OK {
			t.Fatalf("%v: %v", p, plan.Check(estate(), calendar(), p))
		}
		var done api.Set
		for day := range 15 {
			due, _ := plan.Due(p, done, day)
			for _, i := range due {
				done = append(done, i)
				slices.Sort(done)
				if ok, _ := order.Closed(len(l), needs, done); !ok {
					t.Fatalf("%v: %v", p, done)
				}
			}
		}
		if len(done) != len(l) {
			t.Fatalf("%v: %v", p, done)
		}
	}
}
