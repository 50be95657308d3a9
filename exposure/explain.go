package exposure

import (
	"slices"

	"cipherplan/api"
	"cipherplan/basic"
	"cipherplan/facts"
	"cipherplan/identity"
	"cipherplan/normal"
	"cipherplan/rule"
	"cipherplan/verdict"
)

func checkFindings(l []api.Finding, gap, day, age int) api.Errno {
	if !normal.List(l) {
		return api.ErrFinding
	}
	if !basic.In(gap, 0, api.MaxGap) || !basic.In(day, 0, api.MaxDay) || !basic.In(age, 0, api.MaxAge) {
		return api.ErrRange
	}
	return api.OK
}

func pick(l []api.Finding, indices []int) []api.Finding {
	var to []api.Finding
	for _, i := range indices {
		to = append(to, l[i])
	}
	return to
}

// Weak returns the facts that are forbidden.
func Weak(l []api.Finding, gap, day, age int, p api.Policy, purpose int) ([]api.Fact, api.Errno) {
	switch e := checkFindings(l, gap, day, age); {
	case e != api.OK:
		return nil, e
	case rule.Check(p) != api.OK:
		return nil, api.ErrRule
	case !basic.In(purpose, 1, api.Purposes):
		return nil, api.ErrRange
	}
	entities, e := identity.Entities(l, gap)
	if e != api.OK {
		return nil, e
	}
	var weak []api.Fact
	for _, x := range entities {
		of, e := facts.Of(l, x, day, age)
		if e != api.OK {
			return nil, e
		}
		for _, f := range of {
			if f.Kind != api.FindUse {
				continue
			}
			ok, _, e := verdict.Allowed(p, f.Use, purpose, day)
			if e != api.OK {
				return nil, e
			}
			if !ok {
				weak = append(weak, f)
			}
		}
	}
	return weak, api.OK
}

// says reports whether findings of a normal list say a fact.
func says(l []api.Finding, gap, day, age int, f api.Fact) bool {
	entities, _ := identity.Entities(l, gap)
	for _, x := range entities {
		if f.Text != "" && !slices.Contains(x.Hosts, f.Text) {
			continue
		}
		of, _ := facts.Of(l, x, day, age)
		if slices.ContainsFunc(of, func(y api.Fact) bool {
			return y.Subject == f.Subject && y.Kind == f.Kind && y.Use == f.Use && y.Number == f.Number
		}) {
			return true
		}
	}
	return false
}

// Holds reports whether findings say a fact.
func Holds(l []api.Finding, gap, day, age int, f api.Fact) (bool, api.Errno) {
	if e := checkFindings(l, gap, day, age); e != api.OK {
		return false, e
	}
	return says(l, gap, day, age, f), api.OK
}

// Explain returns findings that explain a fact.
func Explain(l []api.Finding, gap, day, age int, f api.Fact) ([]int, api.Errno) {
	ok, e := Holds(l, gap, day, age, f)
	if e != api.OK {
		return nil, e
	}
	if !ok {
		return nil, api.ErrNone
	}
	var left []int
	for i := range l {
		left = append(left, i)
	}
	for before := -1; len(left) != before; {
		before = len(left)
		for _, i := range slices.Clone(left) {
			rest := slices.DeleteFunc(slices.Clone(left), func(j int) bool { return j == i })
			if says(pick(l, rest), gap, day, age, f) {
				left = rest
			}
		}
	}
	return left, api.OK
}
