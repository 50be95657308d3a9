package lifetime_test

import (
	"fmt"
	"math/rand"
	"testing"

	"cipherplan/api"
	"cipherplan/lifetime"
	"cipherplan/rule"
)

var (
	md5    = api.Use{Alg: api.MD5}
	sha256 = api.Use{Alg: api.SHA256}
	sha384 = api.Use{Alg: api.SHA384}
)

// The falls of the tests: md5 on day 9, sha256 on day 100, sha384 never.
const text = "forbid md5 from 9\nforbid sha256 from 100\nkeep sign 50\nkeep backup 40000"

func policy() api.Policy {
	p, _, _ := rule.Parse(text)
	return p
}

func item(kind int, links ...api.Link) api.Item {
	return api.Item{Name: "i", Kind: kind, Purpose: api.PurposeSign, Links: links, Until: 200}
}

func link(u api.Use, day int) api.Link { return api.Link{Use: u, Day: day} }

func lastDay(i api.Item) int { return i.Links[len(i.Links)-1].Day }

func TestCheck(t *testing.T) {
	for name, x := range map[string]struct {
		change func(i *api.Item)
		ok     bool
	}{
		"good":         {func(i *api.Item) {}, true},
		"name":         {func(i *api.Item) { i.Name = "" }, false},
		"kind":         {func(i *api.Item) { i.Kind = 3 }, false},
		"kind 0":       {func(i *api.Item) { i.Kind = 0 }, false},
		"purpose":      {func(i *api.Item) { i.Purpose = 5 }, false},
		"no links":     {func(i *api.Item) { i.Links = nil }, false},
		"use":          {func(i *api.Item) { i.Links[1].Use.Bits = 1 }, false},
		"order":        {func(i *api.Item) { i.Links[1].Day = 1 }, false},
		"day":          {func(i *api.Item) { i.Links[0].Day = -1 }, false},
		"late day":     {func(i *api.Item) { i.Links[1].Day = 40001 }, false},
		"last day":     {func(i *api.Item) { i.Links[1].Day = 40000 }, true},
		"until":        {func(i *api.Item) { i.Until = 0 }, false},
		"just until":   {func(i *api.Item) { i.Until = 1 }, true},
		"late until":   {func(i *api.Item) { i.Until = 40001 }, false},
		"eight":        {func(i *api.Item) { i.Links = many(8) }, true},
		"nine":         {func(i *api.Item) { i.Links = many(9) }, false},
		"secret":       {func(i *api.Item) { i.Kind = api.ItemSecret }, true},
		"another rule": {func(i *api.Item) { i.Purpose = 4 }, true},
		"transport":    {func(i *api.Item) { i.Purpose = 1 }, true},
	} {
		i := item(api.ItemSigned, link(md5, 1), link(sha256, 8))
		x.change(&i)
		if e := lifetime.Check(i); (e == api.OK) != x.ok || !x.ok && e != api.ErrItem {
			t.Errorf("%s: %v", name, e)
		}
		_, e := lifetime.Links(policy(), i)
		_, _, f := lifetime.Fails(policy(), i)
		_, _, g := lifetime.Latest(policy(), i)
		_, h := lifetime.Renew(policy(), i, api.Use{}, 0)
		_, _, k := lifetime.Wanted(policy(), i)
		if c := lifetime.Check(i); e != c || f != c || g != c || k != c || c != api.OK && h != c || c == api.OK && h != api.ErrUse {
			t.Errorf("%s: %v, %v, %v, %v, %v", name, e, f, g, h, k)
		}
	}
	bad := api.Policy{Rules: []api.Rule{{}}}
	n, e := lifetime.Links(bad, api.Item{})
	d, ok, f := lifetime.Fails(bad, api.Item{})
	l, may, g := lifetime.Latest(bad, api.Item{})
	i, h := lifetime.Renew(bad, api.Item{}, api.Use{}, 0)
	w, kept, k := lifetime.Wanted(bad, api.Item{})
	if n+d+l+w != 0 || ok || may || kept || i.Name != "" || e != api.ErrRule || f != e || g != e || h != e || k != e {
		t.Error(e, f, g, h, k)
	}
}

func many(n int) []api.Link {
	var l []api.Link
	for i := range n {
		l = append(l, link(sha384, 1+i))
	}
	return l
}

func TestFailsAndLatest(t *testing.T) {
	for name, x := range map[string]struct {
		i     api.Item
		links int
		fails string // day and true, or none
		last  string
	}{
		"signed":              {item(2, link(md5, 1)), 1, "9 true", "8 true"},
		"renewed in time":     {item(2, link(md5, 1), link(sha256, 8)), 2, "100 true", "99 true"},
		"renewed for good":    {item(2, link(md5, 1), link(sha384, 8)), 2, "0 false", "40000 true"},
		"renewed too late":    {item(2, link(md5, 1), link(sha384, 9)), 1, "9 true", "0 false"},
		"late, then in time":  {item(2, link(md5, 1), link(sha256, 9), link(sha384, 10)), 1, "9 true", "0 false"},
		"signed when fallen":  {item(2, link(md5, 20)), 1, "20 true", "0 false"},
		"renewed when fallen": {item(2, link(sha256, 1), link(md5, 20)), 2, "20 true", "0 false"},
		"no fall, any link":   {item(2, link(sha384, 1), link(md5, 20)), 2, "20 true", "0 false"},
		"one day left":        {item(2, link(md5, 7)), 1, "9 true", "8 true"},
		"no day left":         {item(2, link(md5, 8)), 1, "9 true", "0 false"},
		"last day":            {item(2, link(sha384, 1), link(sha384, 40000)), 2, "0 false", "0 false"},
		"secret":              {item(1, link(md5, 1)), 1, "9 true", "0 false"},
		"secret, renewed":     {item(1, link(md5, 1), link(sha384, 8)), 2, "9 true", "0 false"},
		"worse secret":        {item(1, link(sha256, 1), link(md5, 8)), 2, "9 true", "0 false"},
		"secret, late":        {item(1, link(sha256, 1), link(md5, 50)), 2, "50 true", "0 false"},
		"secret, very late":   {item(1, link(sha256, 1), link(md5, 150)), 2, "100 true", "0 false"},
		"good secret":         {item(1, link(sha384, 1)), 1, "0 false", "0 false"},
	} {
		n, e := lifetime.Links(policy(), x.i)
		day, ok, f := lifetime.Fails(policy(), x.i)
		last, may, g := lifetime.Latest(policy(), x.i)
		if n != x.links || fmt.Sprint(day, ok) != x.fails || fmt.Sprint(last, may) != x.last || e != api.OK || f != api.OK || g != api.OK {
			t.Errorf("%s: %d, %d %v, %d %v", name, n, day, ok, last, may)
		}
	}
	i := item(2, link(md5, 1))
	i.Purpose = api.PurposeCode
	p, _, _ := rule.Parse("forbid md5 for sign")
	if day, ok, e := lifetime.Fails(p, i); day != 0 || ok || e != api.OK {
		t.Error(day, ok, e)
	}
}

func TestRenew(t *testing.T) {
	i := item(2, link(md5, 1))
	j, e := lifetime.Renew(policy(), i, sha256, 8)
	if fmt.Sprint(j.Links) != "[{{1 0} 1} {{3 0} 8}]" || e != api.OK || len(i.Links) != 1 {
		t.Error(j, e)
	}
	full := item(2, many(8)...)
	for name, x := range map[string]struct {
		i   api.Item
		u   api.Use
		day int
		e   api.Errno
	}{
		"use": {full, api.Use{}, 0, api.ErrUse}, "same day": {i, md5, 1, api.ErrDays}, "too late": {i, md5, 40001, api.ErrDays}, "last day": {i, md5, 40000, api.OK},
		"full": {full, md5, 9, api.ErrLimit}, "full, and late": {full, md5, 40001, api.ErrDays},
	} {
		if j, e := lifetime.Renew(policy(), x.i, x.u, x.day); e != x.e || e != api.OK && j.Name != "" {
			t.Errorf("%s: %v, %v", name, j, e)
		}
	}
}

func TestWanted(t *testing.T) {
	i := item(2, link(md5, 150), link(md5, 160))
	for purpose, want := range map[int]string{api.PurposeSign: "200 true", api.PurposeBackup: "40000 false", api.PurposeCode: "150 true"} {
		i.Purpose = purpose
		if day, ok, e := lifetime.Wanted(policy(), i); fmt.Sprint(day, ok) != want || e != api.OK {
			t.Errorf("%d: %d, %v, %v", purpose, day, ok, e)
		}
	}
	i.Purpose, i.Until = api.PurposeSign, 199
	if day, ok, _ := lifetime.Wanted(policy(), i); day != 200 || ok {
		t.Error(day, ok)
	}
}

// A secret fails no later by more links; what is renewed in time by a use without a fall never fails; a late link changes nothing.
func TestConsequences(t *testing.T) {
	r := rand.New(rand.NewSource(15))
	uses := []api.Use{md5, sha256, sha384}
	for range 2000 {
		i := item(1+r.Intn(2), link(uses[r.Intn(3)], r.Intn(60)))
		for range r.Intn(4) {
			i, _ = lifetime.Renew(policy(), i, uses[r.Intn(3)], lastDay(i)+1+r.Intn(60))
		}
		before, fails, _ := lifetime.Fails(policy(), i)
		n, _ := lifetime.Links(policy(), i)
		latest, may, _ := lifetime.Latest(policy(), i)
		j, _ := lifetime.Renew(policy(), i, sha384, lastDay(i)+1+r.Intn(60))
		after, still, _ := lifetime.Fails(policy(), j)
		switch {
		case i.Kind == api.ItemSecret:
			if fails && (!still || after > before) {
				t.Fatalf("%v: %d, %d", j, before, after)
			}
		case may && lastDay(j) <= latest:
			if still {
				t.Fatalf("%v fails on %d", j, after)
			}
		case n < len(i.Links):
			if after != before || !still {
				t.Fatalf("%v: %d, %d", j, before, after)
			}
		}
	}
}
