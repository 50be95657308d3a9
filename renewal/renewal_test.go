package renewal_test

import (
	"fmt"
	"math/rand"
	"testing"

	"cipherplan/api"
	"cipherplan/lifetime"
	"cipherplan/renewal"
	"cipherplan/rule"
)

var (
	md5    = api.Use{Alg: api.MD5}
	sha1   = api.Use{Alg: api.SHA1}
	sha256 = api.Use{Alg: api.SHA256}
	sha384 = api.Use{Alg: api.SHA384}
	rules  = api.Policy{Rules: []api.Rule{{}}}
)

func policy(text string) api.Policy {
	p, n, e := rule.Parse(text)
	if e != api.OK {
		panic(fmt.Sprint(n, e))
	}
	return p
}

// example: md5 falls on day 9, sha256 on day 100, sha384 is allowed from day 50 on.
const example = "forbid md5 from 9\nforbid sha256 from 100\nforbid sha384 until 50"

func item(until int, links ...api.Link) api.Item {
	return api.Item{Name: "i", Kind: api.ItemSigned, Purpose: api.PurposeSign, Links: links, Until: until}
}

func link(u api.Use, day int) api.Link { return api.Link{Use: u, Day: day} }

func TestBest(t *testing.T) {
	all := []api.Use{md5, sha256, sha384}
	for name, x := range map[string]struct {
		text     string
		uses     []api.Use
		from, to int
		want     string
	}{
		"latest fall":   {example, all, 2, 8, "{{3 0} 2} true"},
		"no fall":       {example, all, 2, 60, "{{4 0} 50} true"},
		"just so":       {example, all, 2, 50, "{{4 0} 50} true"},
		"not yet":       {example, all, 2, 49, "{{3 0} 2} true"},
		"only one left": {example, []api.Use{md5}, 8, 60, "{{1 0} 8} true"},
		"none left":     {example, []api.Use{md5}, 9, 60, "{{0 0} 0} false"},
		"no days":       {example, all, 9, 8, "{{0 0} 0} false"},
		"no uses":       {example, nil, 2, 60, "{{0 0} 0} false"},
		"least day":     {"forbid sha1 until 7", []api.Use{sha1, md5, sha256}, 3, 9, "{{1 0} 3} true"},
		"first use":     {"", []api.Use{sha256, md5}, 3, 9, "{{3 0} 3} true"},
		"a gap":         {"forbid md5 from 5 until 9", []api.Use{md5}, 6, 60, "{{1 0} 9} true"},
		"in a gap":      {"forbid md5 from 5 until 9", []api.Use{md5}, 6, 8, "{{0 0} 0} false"},
		"late":          {"", []api.Use{md5}, 40000, 40000, "{{1 0} 40000} true"},
		"too late":      {"", []api.Use{md5}, 50000, 40000, "{{0 0} 0} false"},
	} {
		if l, ok, e := renewal.Best(policy(x.text), x.uses, api.PurposeSign, x.from, x.to); fmt.Sprint(l, ok) != x.want || e != api.OK {
			t.Errorf("%s: %v, %v, %v", name, l, ok, e)
		}
	}
	for _, x := range []struct {
		p                 api.Policy
		u                 api.Use
		purpose, from, to int
		e                 api.Errno
	}{{rules, api.Use{}, 0, -1, 0, api.ErrRule}, {api.Policy{}, api.Use{}, 0, -1, 0, api.ErrUse}, {api.Policy{}, md5, 0, 0, 0, api.ErrRange}, {api.Policy{}, md5, 5, 0, 0, api.ErrRange}, {api.Policy{}, md5, 1, -1, 0, api.ErrRange}, {api.Policy{}, md5, 1, 0, 40001, api.ErrRange}} {
		if l, ok, e := renewal.Best(x.p, []api.Use{md5, x.u}, x.purpose, x.from, x.to); l != (api.Link{}) || ok || e != x.e {
			t.Error(l, ok, e)
		}
	}
}

func TestReachHoldsApply(t *testing.T) {
	for _, x := range []struct {
		i     api.Item
		reach int
		holds bool
	}{{item(8, link(md5, 1)), 8, true}, {item(9, link(md5, 1)), 8, false}, {item(40000, link(sha384, 1)), 40000, true}, {item(99, link(md5, 1), link(sha256, 8)), 99, true}, {item(100, link(md5, 1), link(sha256, 8)), 99, false}} {
		reach, e := renewal.Reach(policy(example), x.i)
		holds, f := renewal.Holds(policy(example), x.i)
		if reach != x.reach || holds != x.holds || e != api.OK || f != api.OK {
			t.Errorf("%v: %d, %v", x.i, reach, holds)
		}
	}
	for _, x := range []struct {
		p api.Policy
		e api.Errno
	}{{rules, api.ErrRule}, {api.Policy{}, api.ErrItem}} {
		reach, e := renewal.Reach(x.p, api.Item{})
		holds, f := renewal.Holds(x.p, api.Item{})
		if reach != 0 || holds || e != x.e || f != x.e {
			t.Error(e, f)
		}
	}
	i := item(8, link(md5, 1))
	j := renewal.Apply(i, []api.Link{link(md5, 1), link(api.Use{}, -1)})
	if fmt.Sprint(j.Links) != "[{{1 0} 1} {{1 0} 1} {{0 0} -1}]" || len(i.Links) != 1 {
		t.Error(j)
	}
	if j.Links[0].Day = 7; i.Links[0].Day != 1 {
		t.Error("memory is shared")
	}
}

func TestSchedule(t *testing.T) {
	all := []api.Use{md5, sha256, sha384}
	seven := []api.Link{}
	for i := range 7 {
		seven = append(seven, link(md5, 1+i))
	}
	steps := "" // each of four uses falls one day after the other
	for i, u := range []string{"md5", "sha1", "sha256", "sha384"} {
		steps += fmt.Sprintf("forbid %s from %d\n", u, 10+i)
	}
	for name, x := range map[string]struct {
		text string
		i    api.Item
		uses []api.Use
		from int
		want string
		e    api.Errno
	}{
		"example":        {example, item(200, link(md5, 1)), all, 0, "[{{3 0} 2} {{4 0} 50}]", api.OK},
		"from":           {example, item(200, link(md5, 1)), all, 7, "[{{3 0} 7} {{4 0} 50}]", api.OK},
		"late from":      {example, item(200, link(md5, 1)), all, 8, "[{{3 0} 8} {{4 0} 50}]", api.OK},
		"too late":       {example, item(200, link(md5, 1)), all, 9, "[]", api.ErrNoPlan},
		"holds":          {example, item(8, link(md5, 1)), all, 9, "[]", api.OK},
		"secret":         {example, api.Item{Name: "i", Kind: 1, Purpose: 2, Links: []api.Link{link(md5, 1)}, Until: 9}, all, 0, "[]", api.ErrNoPlan},
		"no uses":        {example, item(200, link(md5, 1)), nil, 0, "[]", api.ErrNoPlan},
		"no longer":      {example, item(200, link(md5, 1)), []api.Use{md5}, 0, "[]", api.ErrNoPlan},
		"then no longer": {example, item(200, link(md5, 1)), []api.Use{md5, sha256}, 0, "[]", api.ErrNoPlan},
		"full":           {example, item(99, append(seven, link(md5, 8))...), all, 0, "[]", api.ErrNoPlan},
		"full in time":   {example, item(200, append(seven[:6:6], link(sha256, 8), link(sha256, 9))...), all, 0, "[]", api.ErrLimit},
		"last link":      {example, item(99, seven...), all, 0, "[{{3 0} 8}]", api.OK},
		"one more":       {example, item(200, seven...), all, 0, "[]", api.ErrLimit},
		"worse first":    {steps, item(12, link(md5, 1)), []api.Use{md5, sha1, sha384, sha256}, 0, "[{{4 0} 2}]", api.OK},
	} {
		l, e := renewal.Schedule(policy(x.text), x.i, x.uses, x.from)
		if fmt.Sprint(l) != x.want || e != x.e {
			t.Errorf("%s: %v, %v", name, l, e)
		}
	}
	for _, x := range []struct {
		p    api.Policy
		i    api.Item
		u    api.Use
		from int
		e    api.Errno
	}{{rules, api.Item{}, api.Use{}, -1, api.ErrRule}, {api.Policy{}, api.Item{}, api.Use{}, -1, api.ErrItem}, {api.Policy{}, item(5, link(md5, 1)), api.Use{}, -1, api.ErrUse}, {api.Policy{}, item(5, link(md5, 1)), md5, -1, api.ErrRange}, {api.Policy{}, item(5, link(md5, 1)), md5, 40001, api.ErrRange}} {
		if l, e := renewal.Schedule(x.p, x.i, []api.Use{x.u}, x.from); l != nil || e != x.e {
			t.Error(l, e)
		}
	}
}

// After Schedule the item holds, and no fewer links would do.
func TestScheduleIsLeast(t *testing.T) {
	r := rand.New(rand.NewSource(28))
	uses := []api.Use{md5, sha1, sha256, sha384}
	some := 0
	for range 300 {
		p := api.Policy{}
		for alg := 1; alg <= 4; alg++ {
			p.Rules = append(p.Rules, api.Rule{Alg: alg, From: 3 + r.Intn(20), To: 40001}, api.Rule{Alg: alg, To: 1 + r.Intn(6)})
		}
		i := item(5+r.Intn(20), link(uses[r.Intn(4)], r.Intn(3)))
		from := r.Intn(4)
		l, e := renewal.Schedule(p, i, uses, from)
		if e != api.OK {
			continue
		}
		if ok, _ := renewal.Holds(p, renewal.Apply(i, l)); !ok {
			t.Fatalf("%v: %v", i, l)
		}
		some += len(l)
		if len(l) > 0 && reaches(p, i, uses, from, len(l)-1) {
			t.Fatalf("%v: fewer than %v", i, l)
		}
	}
	if some == 0 {
		t.Error("no links")
	}
}

// reaches tries all links, on all days.
func reaches(p api.Policy, i api.Item, uses []api.Use, from, links int) bool {
	if ok, _ := renewal.Holds(p, i); ok {
		return true
	}
	if links == 0 {
		return false
	}
	last := i.Links[len(i.Links)-1].Day
	latest, may, _ := lifetime.Latest(p, i)
	for day := max(from, last+1); may && day <= latest; day++ {
		for _, u := range uses {
			if l, ok, _ := renewal.Best(p, []api.Use{u}, i.Purpose, day, day); ok && reaches(p, renewal.Apply(i, []api.Link{l}), uses, from, links-1) {
				return true
			}
		}
	}
	return false
}

func TestFirstDay(t *testing.T) {
	if l, ok, e := renewal.Best(api.Policy{}, []api.Use{md5}, 1, 0, 0); l != link(md5, 0) || !ok || e != api.OK {
		t.Error(l, ok, e)
	}
	p := policy("forbid md5 from 40000") // falls on the last day, before a use that never falls
	if l, ok, e := renewal.Best(p, []api.Use{md5, sha1}, 1, 5, 5); l != link(sha1, 5) || !ok || e != api.OK {
		t.Error(l, ok, e)
	}
}
