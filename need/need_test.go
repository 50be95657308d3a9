package need_test

import (
	"fmt"
	"math/rand"
	"slices"
	"testing"

	"cipherplan/api"
	"cipherplan/need"
	"cipherplan/order"
)

func estate() api.Estate {
	end := func(name string) api.Endpoint { return api.Endpoint{Name: name, Least: 2, Most: 3} }
	return api.Estate{Endpoints: []api.Endpoint{end("a"), end("b"), end("c")}, Edges: []api.Edge{{Client: 0, Server: 1}, {Client: 1, Server: 0}, {Client: 2, Server: 1}}}
}

func bad() api.Estate {
	e := estate()
	e.Endpoints[0].Least = 0
	return e
}

func TestRank(t *testing.T) {
	e := estate().Endpoints[0]
	for _, x := range []struct{ kind, number, want int }{
		{api.AddAnchor, 5, 0}, {api.AddHash, 3, 0}, {api.AddIdentity, 0, 1}, {api.AddSuite, 5, 2}, {api.SetMost, 4, 2}, {api.SetMost, 2, 3}, {api.SetMost, 3, 3}, {api.SetLeast, 1, 2}, {api.SetLeast, 3, 3},
		{api.SetLeast, 2, 3}, {api.SetFallback, 1, 2}, {api.SetFallback, 0, 3}, {api.SetFallback, 2, 3}, {api.SetOrder, 0, 2}, {api.SetOrder, 1, 2}, {api.DropSuite, 1, 3}, {api.DropIdentity, 1, 3}, {api.DropAnchor, 1, 3}, {api.DropHash, 1, 3}, {0, 0, 3}, {13, 1, 3}, {-1, 1, 3},
	} {
		if n := need.Rank(e, api.Change{Kind: x.kind, Number: x.number}); n != x.want {
			t.Errorf("%v: %d", x, n)
		}
	}
}

func TestDerive(t *testing.T) {
	l := []api.Change{{Endpoint: 1, Kind: api.DropSuite}, {Endpoint: 0, Kind: api.AddAnchor}, {Endpoint: 1, Kind: api.AddIdentity}, {Endpoint: 0, Kind: api.DropSuite}, {Endpoint: 2, Kind: api.AddSuite}, {Endpoint: 0, Kind: api.AddAnchor}}
	want := "[{1 0} {1 2} {1 3} {2 0} {2 3} {2 4} {4 0} {5 0} {5 2} {5 3}]"
	if r, err := need.Derive(estate(), l); fmt.Sprint(r) != want || err != api.OK || order.Check(len(l), r) != api.OK {
		t.Error(r, err)
	}
	for _, x := range []struct {
		e    api.Estate
		l    []api.Change
		want api.Errno
	}{{bad(), make([]api.Change, 25), api.ErrEstate}, {estate(), slices.Repeat([]api.Change{{Endpoint: 9}}, 25), api.ErrLimit}, {estate(), []api.Change{{}, {Endpoint: 3}}, api.ErrChange}, {estate(), []api.Change{{Endpoint: -1}}, api.ErrChange}, {estate(), make([]api.Change, 24), api.OK}} {
		if r, err := need.Derive(x.e, x.l); r != nil || err != x.want {
			t.Error(r, err)
		}
	}
}

func r(first, then int) api.Required { return api.Required{First: first, Then: then} }

func TestUnion(t *testing.T) {
	a, b := []api.Required{r(2, 1), r(0, 1), r(2, 1)}, []api.Required{r(2, 0), r(0, 1)}
	if l := need.Union(a, b); fmt.Sprint(l) != "[{0 1} {2 0} {2 1}]" || !slices.Equal(l, need.Union(b, a)) || !slices.Equal(l, need.Union(l, l)) || need.Union(nil, nil) != nil {
		t.Error(l)
	}
	if a[0] != r(2, 1) {
		t.Error("the argument is changed")
	}
}

func TestReduce(t *testing.T) {
	for name, x := range map[string]struct {
		n    int
		l    []api.Required
		want string
		err  api.Errno
	}{
		"none":     {0, nil, "[]", api.OK},
		"a row":    {3, []api.Required{r(0, 1), r(0, 2), r(1, 2)}, "[{0 1} {1 2}]", api.OK},
		"far away": {4, []api.Required{r(0, 1), r(0, 3), r(1, 2), r(2, 3)}, "[{0 1} {1 2} {2 3}]", api.OK},
		"diamond":  {4, []api.Required{r(0, 1), r(0, 2), r(1, 3), r(2, 3)}, "[{0 1} {0 2} {1 3} {2 3}]", api.OK},
		"range":    {25, []api.Required{r(0, 0)}, "[]", api.ErrRange},
		"need":     {2, []api.Required{r(1, 0), r(0, 2)}, "[]", api.ErrNeed},
		"order":    {2, []api.Required{r(1, 0), r(0, 1)}, "[]", api.ErrOrder},
		"loop":     {2, []api.Required{r(0, 1), r(1, 0)}, "[]", api.ErrLoop},
	} {
		if l, err := need.Reduce(x.n, x.l); fmt.Sprint(l) != x.want || err != x.err {
			t.Errorf("%s: %v, %v", name, l, err)
		}
	}
}

func closure(l []api.Required) []api.Required {
	to, _ := order.Closure(7, l)
	return to
}

// From Reduce the same follows, and not from a part of it; what Derive returns leads nowhere back.
func TestReduceIsLeast(t *testing.T) {
	rnd := rand.New(rand.NewSource(21))
	for range 500 {
		var changes []api.Change
		for range 7 {
			changes = append(changes, api.Change{Endpoint: rnd.Intn(3), Kind: 1 + rnd.Intn(12), Number: 1})
		}
		l, _ := need.Derive(estate(), changes)
		if order.Check(7, l) != api.OK {
			t.Fatalf("%v", l)
		}
		least, _ := need.Reduce(7, l)
		if !slices.Equal(closure(least), closure(l)) {
			t.Fatalf("%v: %v", l, least)
		}
		for i := range least {
			if slices.Equal(closure(slices.Delete(slices.Clone(least), i, i+1)), closure(l)) {
				t.Fatalf("%v: %v", l, least)
			}
		}
	}
}

func TestChain(t *testing.T) {
	if l := need.Chain([]int{2, 0, 1}); fmt.Sprint(l) != "[{0 1} {2 0}]" {
		t.Error(l)
	}
	if need.Chain(nil) != nil || need.Chain([]int{3}) != nil {
		t.Error("no requirements")
	}
}

func TestWhy(t *testing.T) {
	l := []api.Change{{Endpoint: 0}, {Endpoint: 1}, {Endpoint: 2}, {Endpoint: 1}, {Endpoint: 9}}
	for _, x := range []struct {
		r    api.Required
		want string
		err  api.Errno
	}{{r(0, 1), "[0 1]", api.OK}, {r(1, 0), "[0 1]", api.OK}, {r(2, 1), "[2]", api.OK}, {r(0, 2), "[]", api.OK}, {r(1, 3), "[]", api.OK}, {r(0, 5), "[]", api.ErrNeed}, {r(5, 0), "[]", api.ErrNeed}, {r(0, 6), "[]", api.ErrNeed}, {r(-1, 4), "[]", api.ErrNeed}, {r(0, 4), "[]", api.ErrChange}, {r(4, 0), "[]", api.ErrChange}} {
		if to, err := need.Why(estate(), l, x.r); fmt.Sprint(to) != x.want || err != x.err {
			t.Errorf("%v: %v, %v", x.r, to, err)
		}
	}
	if _, err := need.Why(bad(), make([]api.Change, 25), r(0, 99)); err != api.ErrEstate {
		t.Error(err)
	}
	if _, err := need.Why(estate(), make([]api.Change, 25), r(0, 99)); err != api.ErrLimit {
		t.Error(err)
	}
}
