package exception_test

import (
	"fmt"
	"math/rand"
	"strings"
	"testing"

	"cipherplan/api"
	"cipherplan/certificate"
	"cipherplan/der"
	"cipherplan/exception"
	"cipherplan/rule"
)

var md5 = api.Use{Alg: api.MD5}

func good() api.Exception {
	return api.Exception{Use: md5, Purpose: 1, Endpoint: "web", Days: api.Span{From: 5, To: 9}}
}

func signed(x api.Exception, keys ...int) api.Exception {
	for _, k := range keys {
		x, _ = exception.Sign(x, k)
	}
	return x
}

func TestCheck(t *testing.T) {
	for name, x := range map[string]struct {
		change func(x *api.Exception)
		ok     bool
	}{
		"good":      {func(x *api.Exception) {}, true},
		"use":       {func(x *api.Exception) { x.Use.Bits = 1 }, false},
		"purpose":   {func(x *api.Exception) { x.Purpose = 0 }, false},
		"5":         {func(x *api.Exception) { x.Purpose = 5 }, false},
		"endpoint":  {func(x *api.Exception) { x.Endpoint = "" }, false},
		"from":      {func(x *api.Exception) { x.Days.From = -1 }, false},
		"no day":    {func(x *api.Exception) { x.Days.From = 9 }, false},
		"to":        {func(x *api.Exception) { x.Days.To = 40002 }, false},
		"last day":  {func(x *api.Exception) { x.Days.To = 40001 }, true},
		"first day": {func(x *api.Exception) { x.Days = api.Span{From: 0, To: 1} }, true},
		"key 0":     {func(x *api.Exception) { x.Seals = []api.Seal{{}} }, true},
		"order":     {func(x *api.Exception) { x.Seals = []api.Seal{{Key: 2}, {Key: 1}} }, false},
		"twice":     {func(x *api.Exception) { x.Seals = []api.Seal{{Key: 2}, {Key: 2}} }, false},
		"key":       {func(x *api.Exception) { x.Seals = []api.Seal{{Key: -1}} }, false},
		"sum":       {func(x *api.Exception) { x.Seals = []api.Seal{{Sum: 1 << 32}} }, false},
		"greatest":  {func(x *api.Exception) { x.Seals = []api.Seal{{Key: api.MaxKey, Sum: 1<<32 - 1}} }, true},
		"8":         {func(x *api.Exception) { *x = signed(*x, 1, 2, 3, 4, 5, 6, 7, 8) }, true},
		"9":         {func(x *api.Exception) { x.Seals = append(signed(*x, 1, 2, 3, 4, 5, 6, 7, 8).Seals, api.Seal{Key: 9}) }, false},
	} {
		y := good()
		x.change(&y)
		b, e := exception.Bytes(y)
		_, f := exception.Sign(y, 1)
		if c := exception.Check(y); (c == api.OK) != x.ok || e != c || f != c || !x.ok && (c != api.ErrException || b != nil) {
			t.Errorf("%s: %v, %v, %v", name, c, e, f)
		}
	}
}

func TestSign(t *testing.T) {
	b, e := exception.Bytes(good())
	want, _ := der.Encode(der.List([]api.Value{der.Int(1), der.Int(0), der.Int(1), der.Text("web"), der.Int(5), der.Int(9)}))
	if string(b) != string(want) || e != api.OK {
		t.Errorf("%x, %v", b, e)
	}
	sum := certificate.Sum(b)
	x := good()
	x.Seals = []api.Seal{{Key: 3, Sum: 1}}
	y := signed(x, 7, 3, 0)
	if fmt.Sprint(y.Seals) != fmt.Sprintf("[{0 %d} {3 %d} {7 %d}]", sum, sum, sum) || x.Seals[0].Sum != 1 {
		t.Error(y, x)
	}
	full := signed(good(), 1, 2, 3, 4, 5, 6, 7, 8)
	if z, e := exception.Sign(full, 9); e != api.ErrLimit || fmt.Sprint(z) != fmt.Sprint(api.Exception{}) {
		t.Error(z, e)
	}
	if z, e := exception.Sign(full, 8); e != api.OK || len(z.Seals) != 8 {
		t.Error(z, e)
	}
	for _, key := range []int{-1, api.MaxKey + 1} {
		if _, e := exception.Sign(full, key); e != api.ErrRange {
			t.Error(key, e)
		}
	}
	if _, e := exception.Sign(api.Exception{}, -1); e != api.ErrException {
		t.Error(e)
	}
}

func TestValid(t *testing.T) {
	o := api.Owners{Keys: []int{9, 1, 5, 1}, Need: 2}
	wrong := signed(good(), 1, 5)
	wrong.Seals[1].Sum++
	other := signed(good(), 1, 5)
	other.Days.To++
	bad := signed(good(), 1, 5)
	bad.Purpose = 0
	for name, x := range map[string]struct {
		x    api.Exception
		need int
		want bool
	}{
		"one": {signed(good(), 1), 2, false}, "two": {signed(good(), 1, 9), 2, true}, "strangers": {signed(good(), 1, 2, 3), 2, false}, "three": {signed(good(), 1, 2, 5, 9), 2, true},
		"wrong seal": {wrong, 2, false}, "another one": {other, 2, false}, "not right": {bad, 2, false}, "no need": {signed(good(), 1), 0, false}, "need of one": {signed(good(), 1), 1, true},
		"negative": {signed(good(), 1), -1, false}, "all": {signed(good(), 1, 5, 9), 4, false},
	} {
		o.Need = x.need
		if exception.Valid(x.x, o) != x.want {
			t.Errorf("%s: %v", name, !x.want)
		}
	}
	r := rand.New(rand.NewSource(12))
	for range 200 { // with more seals it does not become invalid
		x := signed(good(), r.Intn(10), r.Intn(10))
		o := api.Owners{Keys: []int{1, 3, 5, 7}, Need: 1 + r.Intn(2)}
		if y := signed(x, r.Intn(10)); exception.Valid(x, o) && !exception.Valid(y, o) {
			t.Fatalf("%v, %v", x, y)
		}
	}
}

func TestCovers(t *testing.T) {
	x := good()
	for _, y := range []struct {
		u         api.Use
		purpose   int
		end       string
		day       int
		covers    bool
		exception api.Exception
	}{
		{md5, 1, "web", 5, true, x}, {md5, 1, "web", 8, true, x}, {md5, 1, "web", 4, false, x}, {md5, 1, "web", 9, false, x},
		{api.Use{Alg: 2}, 1, "web", 5, false, x}, {md5, 2, "web", 5, false, x}, {md5, 1, "db", 5, false, x}, {api.Use{}, 0, "", 0, true, api.Exception{Days: api.Span{To: 1}}},
	} {
		if exception.Covers(y.exception, y.u, y.purpose, y.end, y.day) != y.covers {
			t.Errorf("%v", y)
		}
	}
}

func TestAllowed(t *testing.T) {
	p, _, _ := rule.Parse("forbid md5 from 3")
	o := api.Owners{Keys: []int{1}, Need: 1}
	l := []api.Exception{signed(good(), 2), signed(good(), 1)}
	for _, x := range []struct {
		l    []api.Exception
		u    api.Use
		end  string
		day  int
		want bool
	}{{l, md5, "web", 2, true}, {l, md5, "web", 4, false}, {l, md5, "web", 5, true}, {l, md5, "web", 9, false}, {l, md5, "db", 5, false}, {l[:1], md5, "web", 5, false}, {nil, md5, "web", 5, false}, {nil, api.Use{Alg: 2}, "web", 5, true}} {
		if ok, e := exception.Allowed(p, x.l, o, x.u, 1, x.end, x.day); ok != x.want || e != api.OK {
			t.Errorf("%v: %v, %v", x, ok, e)
		}
	}
	for _, x := range []struct {
		p            api.Policy
		l            []api.Exception
		u            api.Use
		purpose, day int
		e            api.Errno
	}{
		{api.Policy{Rules: []api.Rule{{}}}, []api.Exception{{}}, api.Use{}, 0, -1, api.ErrRule},
		{p, []api.Exception{{}}, api.Use{}, 0, -1, api.ErrUse},
		{p, []api.Exception{{}}, md5, 0, 0, api.ErrRange},
		{p, []api.Exception{{}}, md5, 1, -1, api.ErrRange},
		{p, []api.Exception{l[1], {}}, md5, 1, 5, api.ErrException},
	} {
		if ok, e := exception.Allowed(x.p, x.l, o, x.u, x.purpose, "web", x.day); ok || e != x.e {
			t.Errorf("%v: %v, %v", x, ok, e)
		}
	}
}

func TestEnds(t *testing.T) {
	o := api.Owners{Keys: []int{1}, Need: 1}
	span := func(from, to int, keys ...int) api.Exception {
		x := good()
		x.Days = api.Span{From: from, To: to}
		return signed(x, keys...)
	}
	l := []api.Exception{span(20, 40001, 1), span(9, 12, 1), span(5, 9, 1), span(12, 30, 2), span(6, 7, 1)}
	l = append(l, api.Exception{Use: md5, Purpose: 1, Endpoint: "web", Days: api.Span{From: 12, To: 50000}})
	for day, want := range map[int]int{4: 0, 5: 12, 6: 12, 8: 12, 9: 12, 11: 12, 12: 0, 20: 40001, 40000: 40001, 40001: 0, -5: 0} {
		if n, ok := exception.Ends(l, o, md5, 1, "web", day); n != want || ok != (want > 0) {
			t.Errorf("%d: %d, %v", day, n, ok)
		}
	}
	if n, ok := exception.Ends(l, o, md5, 1, strings.Repeat("w", 3), 5); n != 0 || ok {
		t.Error(n, ok)
	}
}
