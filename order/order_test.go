package order_test

import (
	"fmt"
	"math/rand"
	"slices"
	"testing"

	"cipherplan/api"
	"cipherplan/order"
)

func r(first, then int) api.Required { return api.Required{First: first, Then: then} }

// set returns the indices of the bits that are set.
func set(bits int) api.Set {
	var s api.Set
	for i := range 24 {
		if bits>>i&1 == 1 {
			s = append(s, i)
		}
	}
	return s
}

func TestCheckAndClosure(t *testing.T) {
	for name, x := range map[string]struct {
		n    int
		l    []api.Required
		want string
		e    api.Errno
	}{
		"none":     {0, nil, "[]", api.OK},
		"a row":    {4, []api.Required{r(0, 1), r(1, 3), r(3, 2)}, "[{0 1} {0 2} {0 3} {1 2} {1 3} {3 2}]", api.OK},
		"range":    {25, []api.Required{r(0, 0)}, "[]", api.ErrRange},
		"negative": {-1, nil, "[]", api.ErrRange},
		"need":     {2, []api.Required{r(1, 0), r(0, 2)}, "[]", api.ErrNeed},
		"itself":   {2, []api.Required{r(1, 0), r(1, 1)}, "[]", api.ErrNeed},
		"order":    {2, []api.Required{r(1, 0), r(0, 1)}, "[]", api.ErrOrder},
		"twice":    {2, []api.Required{r(0, 1), r(0, 1)}, "[]", api.ErrOrder},
		"loop":     {3, []api.Required{r(0, 1), r(1, 2), r(2, 0)}, "[]", api.ErrLoop},
	} {
		l, e := order.Closure(x.n, x.l)
		if fmt.Sprint(l) != x.want || e != x.e || order.Check(x.n, x.l) != x.e {
			t.Errorf("%s: %v, %v, %v", name, l, e, order.Check(x.n, x.l))
		}
		if x.e == api.OK {
			continue
		}
		ok, a := order.Closed(x.n, x.l, api.Set{99})
		s, b := order.Sets(x.n, x.l)
		c, d := order.Ready(x.n, x.l, api.Set{99})
		f, g := order.Removable(x.n, x.l, api.Set{99})
		h, i := order.First(x.n, x.l)
		j, k := order.Part(x.n, x.l, api.Set{99})
		if ok || s != nil || c != nil || f != nil || h != nil || j != nil || a != x.e || b != x.e || d != x.e || g != x.e || i != x.e || k != x.e {
			t.Errorf("%s: %v %v %v %v %v %v", name, a, b, d, g, i, k)
		}
	}
}

func TestSets(t *testing.T) {
	if l, e := order.Sets(3, []api.Required{r(0, 1)}); fmt.Sprint(l) != "[[] [0] [2] [0 1] [0 2] [0 1 2]]" || e != api.OK {
		t.Error(l, e)
	}
	if l, e := order.Sets(0, nil); fmt.Sprint(l) != "[[]]" || e != api.OK {
		t.Error(l, e)
	}
	if l, e := order.Sets(12, nil); len(l) != 4096 || e != api.OK {
		t.Error(len(l), e)
	}
	if l, e := order.Sets(13, nil); l != nil || e != api.ErrLimit {
		t.Error(len(l), e)
	}
	if l, e := order.Sets(24, nil); l != nil || e != api.ErrLimit {
		t.Error(len(l), e)
	}
	var row []api.Required
	for i := range 23 {
		row = append(row, r(i, i+1))
	}
	if l, e := order.Sets(24, row); len(l) != 25 || len(l[24]) != 24 || e != api.OK {
		t.Error(len(l), e)
	}
}

func TestClosedReadyRemovable(t *testing.T) {
	l := []api.Required{r(0, 1), r(0, 2), r(3, 2)}
	for _, x := range []struct {
		s                api.Set
		closed           bool
		ready, removable string
		e                api.Errno
	}{
		{nil, true, "[0 3 4]", "[]", api.OK}, {api.Set{0}, true, "[1 3 4]", "[0]", api.OK}, {api.Set{0, 1, 3}, true, "[2 4]", "[1 3]", api.OK}, {api.Set{0, 1, 2, 3, 4}, true, "[]", "[1 2 4]", api.OK},
		{api.Set{1}, false, "[]", "[]", api.OK}, {api.Set{0, 2}, false, "[]", "[]", api.OK}, {api.Set{1, 0}, false, "[]", "[]", api.ErrSet}, {api.Set{0, 0}, false, "[]", "[]", api.ErrSet}, {api.Set{5}, false, "[]", "[]", api.ErrSet}, {api.Set{-1, 0}, false, "[]", "[]", api.ErrSet},
	} {
		ok, e := order.Closed(5, l, x.s)
		ready, f := order.Ready(5, l, x.s)
		removable, g := order.Removable(5, l, x.s)
		want := api.OK
		if !x.closed {
			want = api.ErrSet
		}
		if ok != x.closed || e != x.e || f != want || g != want || fmt.Sprint(ready) != x.ready || fmt.Sprint(removable) != x.removable {
			t.Errorf("%v: %v, %v, %v, %v, %v, %v", x.s, ok, e, ready, f, removable, g)
		}
	}
}

func TestFirst(t *testing.T) {
	if s, e := order.First(5, []api.Required{r(1, 0), r(3, 1), r(4, 2)}); fmt.Sprint(s) != "[3 1 0 4 2]" || e != api.OK {
		t.Error(s, e)
	}
	if s, e := order.First(24, nil); len(s) != 24 || s[23] != 23 || e != api.OK {
		t.Error(s, e)
	}
}

func TestPart(t *testing.T) {
	l := []api.Required{r(0, 2), r(2, 4), r(3, 1)}
	for _, x := range []struct {
		s    api.Set
		want string
		e    api.Errno
	}{{api.Set{0, 4}, "[{0 1}]", api.OK}, {api.Set{0, 1, 2, 3, 4}, "[{0 2} {0 4} {2 4} {3 1}]", api.OK}, {api.Set{1, 3}, "[{1 0}]", api.OK}, {nil, "[]", api.OK}, {api.Set{4, 0}, "[]", api.ErrSet}, {api.Set{5}, "[]", api.ErrSet}} {
		if p, e := order.Part(5, l, x.s); fmt.Sprint(p) != x.want || e != x.e {
			t.Errorf("%v: %v, %v", x.s, p, e)
		}
	}
}

// Closed sets are reached by Ready ones; those of Part are what closed sets have in common with the set; beginnings of First are closed.
func TestConsequences(t *testing.T) {
	rnd := rand.New(rand.NewSource(22))
	for range 300 {
		n := 1 + rnd.Intn(6)
		var l []api.Required
		place := rnd.Perm(n)
		for i := range n {
			for j := range n {
				if place[i] < place[j] && rnd.Intn(3) == 0 {
					l = append(l, r(i, j))
				}
			}
		}
		slices.SortFunc(l, func(a, b api.Required) int { return (a.First-b.First)*100 + a.Then - b.Then })
		sets, e := order.Sets(n, l)
		if e != api.OK {
			t.Fatal(l, e)
		}
		count := 0
		for bits := range 1 << n {
			if ok, _ := order.Closed(n, l, set(bits)); ok {
				count++
			}
		}
		if count != len(sets) {
			t.Fatalf("%v: %v", l, sets)
		}
		for _, s := range sets {
			ready, _ := order.Ready(n, l, s)
			for _, i := range ready {
				more := append(slices.Clone(s), i)
				slices.Sort(more)
				removable, _ := order.Removable(n, l, more)
				if ok, _ := order.Closed(n, l, more); !ok || !slices.Contains(removable, i) {
					t.Fatalf("%v: %v", l, more)
				}
			}
		}
		part := set(rnd.Intn(1 << n))
		of, _ := order.Part(n, l, part)
		small, _ := order.Sets(len(part), of)
		common := map[string]bool{}
		for _, s := range sets {
			var both api.Set
			for place, i := range part {
				if slices.Contains(s, i) {
					both = append(both, place)
				}
			}
			common[fmt.Sprint(both)] = true
		}
		if len(common) != len(small) {
			t.Fatalf("%v of %v: %v", part, l, small)
		}
		first, _ := order.First(n, l)
		for i := range first {
			begin := slices.Sorted(slices.Values(first[:i]))
			if ok, _ := order.Closed(n, l, begin); !ok {
				t.Fatalf("%v: %v", l, first)
			}
		}
	}
}
