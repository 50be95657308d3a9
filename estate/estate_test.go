package estate_test

import (
	"fmt"
	"math/rand"
	"testing"

	"cipherplan/api"
	"cipherplan/endpoint"
	"cipherplan/estate"
)

func start() api.Estate {
	end := func(name string) api.Endpoint {
		return api.Endpoint{Name: name, Least: 1, Most: 3, Suites: []int{10, 2}, Anchors: []int{9}}
	}
	item := api.Item{Name: "i", Kind: 1, Purpose: 1, Links: []api.Link{{Use: api.Use{Alg: 1}, Day: 1}}, Until: 5}
	return api.Estate{Endpoints: []api.Endpoint{end("app"), end("db"), end("web")}, Edges: []api.Edge{{Client: 0, Server: 2}, {Client: 1, Server: 2}}, Items: []api.Item{item}}
}

func anchor(at, n int) api.Change {
	return api.Change{Endpoint: at, Kind: api.AddAnchor, Number: n}
}

func most(at, n int) api.Change { return api.Change{Endpoint: at, Kind: api.SetMost, Number: n} }

func bad() api.Estate {
	e := start()
	e.Endpoints[0].Least = 0
	return e
}

func TestIndex(t *testing.T) {
	for name, want := range map[string]string{"app": "0 true", "web": "2 true", "x": "0 false", "": "0 false"} {
		if i, ok := estate.Index(start(), name); fmt.Sprint(i, ok) != want {
			t.Errorf("%s: %d, %v", name, i, ok)
		}
	}
}

func TestApply(t *testing.T) {
	e, err := estate.Apply(start(), anchor(1, 5))
	want := start()
	want.Endpoints[1].Anchors = []int{5, 9}
	if !estate.Same(e, want) || err != api.OK {
		t.Error(e, err)
	}
	for name, x := range map[string]struct {
		e    api.Estate
		c    api.Change
		want api.Errno
	}{
		"estate": {bad(), anchor(9, 9), api.ErrEstate}, "endpoint": {start(), api.Change{Endpoint: 3}, api.ErrChange}, "negative": {start(), anchor(-1, 5), api.ErrChange},
		"kind": {start(), api.Change{}, api.ErrChange}, "done": {start(), anchor(0, 9), api.ErrDone}, "value": {start(), most(0, 9), api.ErrValue},
	} {
		if e, err := estate.Apply(x.e, x.c); err != x.want || !estate.Same(e, api.Estate{}) {
			t.Errorf("%s: %v", name, err)
		}
	}
}

func TestState(t *testing.T) {
	l := []api.Change{anchor(0, 5), most(2, 4), most(2, 3), anchor(0, 5)}
	for name, x := range map[string]struct {
		s    api.Set
		n    int
		most int
		want api.Errno
	}{
		"none": {nil, 1, 3, api.OK}, "one": {api.Set{1}, 1, 4, api.OK}, "in a row": {api.Set{0, 1, 2}, 2, 3, api.OK}, "impossible": {api.Set{2}, 0, 0, api.ErrDone},
		"twice": {api.Set{0, 3}, 0, 0, api.ErrDone}, "order": {api.Set{1, 0}, 0, 0, api.ErrSet}, "same": {api.Set{1, 1}, 0, 0, api.ErrSet},
		"far": {api.Set{0, 4}, 0, 0, api.ErrSet}, "negative": {api.Set{-1, 0}, 0, 0, api.ErrSet}, "one negative": {api.Set{-1}, 0, 0, api.ErrSet}, "one far": {api.Set{4}, 0, 0, api.ErrSet}, "first": {api.Set{0}, 2, 3, api.OK},
	} {
		e, err := estate.State(start(), l, x.s)
		if err != x.want || err == api.OK && (len(e.Endpoints[0].Anchors) != x.n || e.Endpoints[2].Most != x.most) || err != api.OK && !estate.Same(e, api.Estate{}) {
			t.Errorf("%s: %v, %v", name, e, err)
		}
	}
	if e, err := estate.State(start(), nil, nil); !estate.Same(e, start()) || err != api.OK {
		t.Error(e, err)
	}
	if _, err := estate.State(bad(), make([]api.Change, 25), api.Set{30}); err != api.ErrEstate {
		t.Error(err)
	}
	if _, err := estate.State(start(), make([]api.Change, 25), api.Set{30}); err != api.ErrLimit {
		t.Error(err)
	}
	if _, err := estate.State(start(), make([]api.Change, 24), nil); err != api.OK {
		t.Error(err)
	}
	if _, err := estate.State(start(), []api.Change{anchor(7, 1)}, api.Set{0}); err != api.ErrChange {
		t.Error(err)
	}
}

func TestRelevant(t *testing.T) {
	l := []api.Change{anchor(0, 5), anchor(1, 5), anchor(2, 5), anchor(0, 6), anchor(9, 1)}
	for edge, want := range []string{"[0 2 3]", "[1 2]"} {
		if s, err := estate.Relevant(start(), l, edge); fmt.Sprint(s) != want || err != api.OK {
			t.Errorf("%d: %v, %v", edge, s, err)
		}
	}
	for _, x := range []struct {
		e    api.Estate
		n    int
		edge int
		want api.Errno
	}{{bad(), 25, 5, api.ErrEstate}, {start(), 25, 5, api.ErrLimit}, {start(), 24, 2, api.ErrNone}, {start(), 1, -1, api.ErrNone}} {
		if s, err := estate.Relevant(x.e, make([]api.Change, x.n), x.edge); s != nil || err != x.want {
			t.Error(s, err)
		}
	}
}

func TestCommute(t *testing.T) {
	for name, x := range map[string]struct {
		a, b api.Change
		want bool
	}{
		"two endpoints": {anchor(0, 5), anchor(1, 5), true}, "two anchors": {anchor(0, 5), anchor(0, 6), true}, "two mosts": {most(0, 4), most(0, 2), false},
		"impossible": {anchor(0, 5), anchor(1, 9), false}, "the same": {anchor(0, 5), anchor(0, 5), false}, "no endpoint": {anchor(0, 5), anchor(7, 5), false},
		"places": {api.Change{Kind: api.AddSuite, Number: 1}, api.Change{Kind: api.AddSuite, Number: 3}, false}, "only in one order": {most(0, 4), api.Change{Kind: api.SetLeast, Number: 4}, false},
	} {
		if ok, err := estate.Commute(start(), x.a, x.b); ok != x.want || err != api.OK {
			t.Errorf("%s: %v, %v", name, ok, err)
		}
	}
	if ok, err := estate.Commute(bad(), anchor(0, 5), anchor(1, 5)); ok || err != api.ErrEstate {
		t.Error(ok, err)
	}
}

func TestSame(t *testing.T) {
	for i, change := range []func(e *api.Estate){
		func(e *api.Estate) { e.Endpoints[0].Most = 2 }, func(e *api.Estate) { e.Edges = nil }, func(e *api.Estate) { e.Items = nil }, func(e *api.Estate) { e.Items[0].Name = "x" },
		func(e *api.Estate) { e.Items[0].Links[0].Day++ }, func(e *api.Estate) { e.Items[0].Until++ }, func(e *api.Estate) { e.Items[0].Kind++ }, func(e *api.Estate) { e.Items[0].Purpose++ },
	} {
		e := start()
		if change(&e); estate.Same(e, start()) {
			t.Errorf("%d", i)
		}
	}
	if !estate.Same(start(), start()) {
		t.Error("equal ones")
	}
}

func TestOwnMemory(t *testing.T) {
	e := start()
	x, _ := estate.Apply(e, anchor(0, 5))
	x.Endpoints[1].Suites[0], x.Edges[0].Client, x.Items[0].Links[0].Day = 99, 99, 99
	if !estate.Same(e, start()) {
		t.Error("memory is shared")
	}
}

// The ends of an edge depend on its relevant changes alone.
func TestRelevantAlone(t *testing.T) {
	r := rand.New(rand.NewSource(18))
	for range 1000 {
		var l []api.Change
		var s api.Set
		for i := range 6 {
			l = append(l, []api.Change{anchor(r.Intn(3), 1+r.Intn(8)), most(r.Intn(3), 1+r.Intn(4))}[r.Intn(2)])
			if r.Intn(2) > 0 {
				s = append(s, i)
			}
		}
		e, err := estate.State(start(), l, s)
		if err != api.OK {
			continue
		}
		relevant, _ := estate.Relevant(start(), l, 0)
		var both api.Set
		for _, i := range s {
			for _, j := range relevant {
				if i == j {
					both = append(both, i)
				}
			}
		}
		f, err := estate.State(start(), l, both)
		if err != api.OK || !endpoint.Same(e.Endpoints[0], f.Endpoints[0]) || !endpoint.Same(e.Endpoints[2], f.Endpoints[2]) {
			t.Fatalf("%v, %v: %v", l, s, both)
		}
	}
}
