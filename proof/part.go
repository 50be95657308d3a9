package proof

import (
	"iter"
	"slices"

	"cipherplan/api"
	"cipherplan/estate"
	"cipherplan/order"
)

// part is what an edge depends on: an estate of its two ends alone, and the changes of these.
type part struct {
	edge     int // in the whole estate
	estate   api.Estate
	changes  []api.Change
	days     []int
	relevant api.Set // the indices of the changes in the plan
	needs    []api.Required
	sets     []api.Set // the cases, as places in relevant
}

func newPart(e api.Estate, p api.Plan, edge int) (part, api.Errno) {
	x := part{edge: edge}
	ends := e.Edges[edge]
	low, high := min(ends.Client, ends.Server), max(ends.Client, ends.Server)
	place := func(endpoint int) int {
		if endpoint == high {
			return 1
		}
		return 0
	}
	x.estate.Endpoints = []api.Endpoint{e.Endpoints[low], e.Endpoints[high]}
	x.estate.Edges = []api.Edge{{Client: place(ends.Client), Server: place(ends.Server)}}
	var err api.Errno
	if x.relevant, err = estate.Relevant(e, p.Changes, edge); err != api.OK {
		return part{}, err
	}
	for _, i := range x.relevant {
		c := p.Changes[i]
		c.Endpoint = place(c.Endpoint)
		x.changes, x.days = append(x.changes, c), append(x.days, p.Days[i])
	}
	if x.needs, err = order.Part(len(p.Changes), p.Required, x.relevant); err != api.OK {
		return part{}, err
	}
	if x.sets, err = order.Sets(len(x.relevant), x.needs); err != api.OK {
		return part{}, err
	}
	return x, api.OK
}

// state returns the estate of the two ends behind a case.
func (x part) state(s api.Set) (api.Estate, api.Errno) {
	return estate.State(x.estate, x.changes, s)
}

// remembered returns state, for many questions about few cases: each one is answered from memory when it comes again.
func (x part) remembered() func(api.Set) (api.Estate, api.Errno) {
	type answer struct {
		estate api.Estate
		err    api.Errno
	}
	answers := map[uint32]answer{}
	return func(s api.Set) (api.Estate, api.Errno) {
		var key uint32
		for _, place := range s {
			key |= 1 << place
		}
		a, there := answers[key]
		if !there {
			a.estate, a.err = x.state(s)
			answers[key] = a
		}
		return a.estate, a.err
	}
}

// indices returns places as indices of the plan.
func (x part) indices(s api.Set) api.Set {
	var to api.Set
	for _, place := range s {
		to = append(to, x.relevant[place])
	}
	return to
}

// lastDay returns the greatest day of a set, or a day that is greater.
func (x part) lastDay(s api.Set, day int) int {
	for _, place := range s {
		day = max(day, x.days[place])
	}
	return day
}

// cases makes the cases with their first days.
func (x part) cases(from int) iter.Seq2[api.Set, int] {
	return func(yield func(api.Set, int) bool) {
		for _, s := range x.sets {
			if !yield(s, x.lastDay(s, from)) {
				return
			}
		}
	}
}

// mattering lets those cases through whose first day is not behind another day.
func mattering(cases iter.Seq2[api.Set, int], to int) iter.Seq2[api.Set, int] {
	return func(yield func(api.Set, int) bool) {
		for s, first := range cases {
			if first <= to && !yield(s, first) {
				return
			}
		}
	}
}

// results makes of cases what they come to.
func (x part) results(cases iter.Seq2[api.Set, int], to int) iter.Seq2[api.Case, bool] {
	return func(yield func(api.Case, bool) bool) {
		for s, first := range cases {
			o, keeps := during(x, s, first, to)
			if !yield(api.Case{Edge: x.edge, Set: x.indices(s), Outcome: o}, keeps) {
				return
			}
		}
	}
}

// steps makes all cases with each place that can be added on its day.
func (x part) steps() iter.Seq2[api.Set, int] {
	return func(yield func(api.Set, int) bool) {
		for s := range x.cases(0) {
			ready, _ := order.Ready(len(x.relevant), x.needs, s)
			for _, place := range ready {
				if x.lastDay(s, 0) <= x.days[place] && !yield(s, place) {
					return
				}
			}
		}
	}
}

// with returns a set with one more place.
func with(s api.Set, place int) api.Set {
	at, _ := slices.BinarySearch(s, place)
	return slices.Insert(slices.Clone(s), at, place)
}
