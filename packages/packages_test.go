package packages_test

import (
	"fmt"
	"slices"
	"testing"

	"cipherplan/api"
	"cipherplan/packages"
)

func TestVersion(t *testing.T) {
	for s, want := range map[string]string{"0": "[0]", "1.10": "[1 10]", "1.2.3.99999": "[1 2 3 99999]"} {
		v, e := packages.Version(s)
		if fmt.Sprint(v) != want || e != api.OK {
			t.Errorf("%q: %v, %v", s, v, e)
		}
		if u, e := packages.Text(v); u != s || e != api.OK {
			t.Errorf("%v: %q, %v", v, u, e)
		}
	}
	for _, s := range []string{"", ".", "1.", ".1", "1..2", "01", "1.2.3.4.5", "100000", "-1", "1 ", "a", "1.99999999999999999999"} {
		if v, e := packages.Version(s); v != nil || e != api.ErrVersion {
			t.Errorf("%q: %v, %v", s, v, e)
		}
	}
	for _, v := range [][]int{nil, {1, 2, 3, 4, 5}, {-1}, {100000}} {
		if s, e := packages.Text(v); s != "" || e != api.ErrVersion {
			t.Errorf("%v: %q, %v", v, s, e)
		}
	}
}

func TestCompare(t *testing.T) {
	for _, x := range []struct {
		a, b []int
		want int
	}{{[]int{1, 10}, []int{1, 9}, 1}, {[]int{1, 2}, []int{1, 2, 0}, 0}, {[]int{1, 2}, []int{1, 2, 0, 1}, -1}, {[]int{2}, []int{1, 99}, 1}} {
		if packages.Compare(x.a, x.b) != x.want || packages.Compare(x.b, x.a) != -x.want {
			t.Errorf("%v, %v: %d", x.a, x.b, packages.Compare(x.a, x.b))
		}
	}
}

func TestIn(t *testing.T) {
	r := api.Range{Low: []int{1, 2}, High: []int{2}}
	for s, want := range map[string]bool{"1.2": true, "1.99": true, "2.0": false, "1.1.9": false, "1.2.0.0": true} {
		v, _ := packages.Version(s)
		if packages.In(r, v) != want {
			t.Errorf("%s: %v", s, !want)
		}
	}
	if !packages.In(api.Range{}, []int{0}) || !packages.In(api.Range{Low: []int{1}}, []int{9}) || packages.In(api.Range{High: []int{1}}, []int{1}) {
		t.Error("without bounds")
	}
}

func need(name string, bounds ...int) api.Need {
	n := api.Need{Name: name}
	if len(bounds) > 0 {
		n.Range = api.Range{Low: bounds[:1], High: bounds[1:2]}
	}
	return n
}

func list() []api.Package {
	return []api.Package{
		{Name: "app", Version: []int{1}, Needs: []api.Need{need("lib", 1, 2), need("tls")}},
		{Name: "lib", Version: []int{1, 5}, Needs: []api.Need{need("math")}},
		{Name: "math", Version: []int{3}, Needs: []api.Need{need("lib", 1, 2)}},
		{Name: "old", Version: []int{1}, Needs: []api.Need{need("lib", 2, 3), need("app")}},
		{Name: "tls", Version: []int{2}, Needs: []api.Need{need("gone")}},
	}
}

func TestCheck(t *testing.T) {
	many := func(n int) []api.Package {
		var l []api.Package
		for i := range n {
			l = append(l, api.Package{Name: fmt.Sprintf("%03d", i), Version: []int{1}})
		}
		return l
	}
	for name, x := range map[string]struct {
		change func(l []api.Package) []api.Package
		e      api.Errno
	}{
		"good":         {func(l []api.Package) []api.Package { return l }, api.OK},
		"64":           {func(l []api.Package) []api.Package { return many(64) }, api.OK},
		"65":           {func(l []api.Package) []api.Package { return append(many(64), api.Package{}) }, api.ErrLimit},
		"eight needs":  {func(l []api.Package) []api.Package { l[0].Needs = slices.Repeat(l[0].Needs[:1], 8); return l }, api.OK},
		"nine needs":   {func(l []api.Package) []api.Package { l[4].Needs = make([]api.Need, 9); return l }, api.ErrLimit},
		"name":         {func(l []api.Package) []api.Package { l[4].Name, l[0].Version = "", nil; return l }, api.ErrName},
		"need's name":  {func(l []api.Package) []api.Package { l[4].Needs[0].Name, l[0].Version = "a b", nil; return l }, api.ErrName},
		"version":      {func(l []api.Package) []api.Package { l[4].Version, l[0].Name = nil, "z"; return l }, api.ErrVersion},
		"range":        {func(l []api.Package) []api.Package { l[0].Needs[0].Range.Low = []int{-1}; return l }, api.ErrVersion},
		"upper bound":  {func(l []api.Package) []api.Package { l[0].Needs[0].Range.High = []int{100000}; return l }, api.ErrVersion},
		"order":        {func(l []api.Package) []api.Package { l[0].Name = "z"; return l }, api.ErrOrder},
		"a name twice": {func(l []api.Package) []api.Package { l[0].Name = "lib"; return l }, api.ErrOrder},
	} {
		l := x.change(list())
		m, e := packages.Missing(l)
		r, f := packages.Reach(l, "none")
		u, g := packages.Uses(l, []api.Known{{Range: api.Range{Low: []int{-1}}}}, "none")
		if c := packages.Check(l); c != x.e || e != x.e || x.e != api.OK && (m != nil || f != x.e || g != x.e) || x.e == api.OK && (f != api.ErrNone || g != api.ErrNone) || r != nil || u != nil {
			t.Errorf("%s: %v, %v, %v, %v", name, c, e, f, g)
		}
	}
}

func TestMissingAndReach(t *testing.T) {
	if l, e := packages.Missing(list()); fmt.Sprint(l) != "[old tls]" || e != api.OK {
		t.Errorf("%v, %v", l, e)
	}
	for name, want := range map[string]string{"app": "[app lib math tls]", "lib": "[lib math]", "math": "[lib math]", "tls": "[tls]", "old": "[app lib math old tls]"} {
		if l, e := packages.Reach(list(), name); fmt.Sprint(l) != want || e != api.OK {
			t.Errorf("%s: %v, %v", name, l, e)
		}
	}
}

func TestUses(t *testing.T) {
	rsa := api.Use{Alg: api.RSA, Bits: 2048}
	k := []api.Known{
		{Name: "tls", Uses: []api.Use{rsa, {Alg: api.RSA, Bits: 1024}}},
		{Name: "math", Range: api.Range{Low: []int{3}}, Uses: []api.Use{{Alg: api.MD5}, rsa}},
		{Name: "math", Range: api.Range{High: []int{3}}, Uses: []api.Use{{Alg: api.SHA1}}},
		{Name: "old", Uses: []api.Use{{Alg: api.CHACHA}}},
		{Name: "none", Uses: []api.Use{{Alg: api.CHACHA}}},
	}
	if l, e := packages.Uses(list(), k, "app"); fmt.Sprint(l) != "[{1 0} {5 1024} {5 2048}]" || e != api.OK {
		t.Errorf("%v, %v", l, e)
	}
	if l, e := packages.Uses(list(), k, "lib"); fmt.Sprint(l) != "[{1 0} {5 2048}]" || e != api.OK {
		t.Errorf("%v, %v", l, e)
	}
	k = append(k, api.Known{Name: "x", Uses: []api.Use{{}}})
	if l, e := packages.Uses(list(), k, "lib"); l != nil || e != api.ErrUse {
		t.Errorf("%v, %v", l, e)
	}
	k = append(k, api.Known{Name: "x", Range: api.Range{High: []int{-1}}})
	if l, e := packages.Uses(list(), k, "lib"); l != nil || e != api.ErrVersion {
		t.Errorf("%v, %v", l, e)
	}
}
