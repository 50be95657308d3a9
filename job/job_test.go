package job_test

import (
	"fmt"
	"math/rand"
	"slices"
	"testing"

	"cipherplan/api"
	"cipherplan/estate"
	"cipherplan/job"
	"cipherplan/lifetime"
	"cipherplan/rule"
)

var (
	md5    = api.Use{Alg: api.MD5}
	sha256 = api.Use{Alg: api.SHA256}
	sha384 = api.Use{Alg: api.SHA384}
)

// policy: md5 falls on day 9, sha256 on day 100, sha384 is allowed from day 5 on.
func policy() api.Policy {
	p, _, _ := rule.Parse("forbid md5 from 9\nforbid sha256 from 100\nforbid sha384 until 5")
	return p
}

func item(kind, until int, u api.Use) api.Item {
	return api.Item{Name: "i", Kind: kind, Purpose: api.PurposeSign, Links: []api.Link{{Use: u, Day: 1}}, Until: until}
}

func world() api.Estate {
	return api.Estate{Items: []api.Item{item(2, 50, md5), item(1, 50, md5), item(2, 50, sha256), item(2, 8, md5), item(2, 9, md5), item(2, 200, sha256)}}
}

func to(item int, u api.Use, day int) api.Job {
	return api.Job{Item: item, Link: api.Link{Use: u, Day: day}}
}

var (
	bad   = api.Estate{Items: []api.Item{{}}}
	rules = api.Policy{Rules: []api.Rule{{}}}
)

func TestApply(t *testing.T) {
	e, err := job.Apply(world(), policy(), to(0, sha256, 8))
	want := world()
	want.Items[0].Links = append(want.Items[0].Links, api.Link{Use: sha256, Day: 8})
	if !estate.Same(e, want) || err != api.OK {
		t.Error(e, err)
	}
	full := world()
	for i := range 7 {
		full.Items[0].Links = append(full.Items[0].Links, api.Link{Use: sha256, Day: 2 + i})
	}
	for name, x := range map[string]struct {
		e    api.Estate
		p    api.Policy
		j    api.Job
		want api.Errno
	}{
		"good": {world(), policy(), to(1, sha256, 20), api.OK}, "last item": {world(), policy(), to(5, sha384, 20), api.OK}, "estate": {bad, rules, to(9, api.Use{}, 0), api.ErrEstate}, "rule": {world(), rules, to(9, api.Use{}, 0), api.ErrRule},
		"item": {world(), policy(), to(6, api.Use{}, 0), api.ErrJob}, "negative": {world(), policy(), to(-1, api.Use{}, 0), api.ErrJob}, "use": {world(), policy(), to(0, api.Use{}, 0), api.ErrUse},
		"day": {world(), policy(), to(0, md5, 1), api.ErrDays}, "late day": {world(), policy(), to(0, md5, 40001), api.ErrDays}, "full": {full, policy(), to(0, md5, 30), api.ErrLimit},
		"forbidden": {world(), policy(), to(0, md5, 9), api.ErrForbid}, "not forbidden yet": {world(), policy(), to(0, md5, 8), api.OK}, "not allowed yet": {world(), policy(), to(0, sha384, 4), api.ErrForbid},
	} {
		e, err := job.Apply(x.e, x.p, x.j)
		if c := job.Check(x.e, x.p, x.j); err != x.want || c != x.want || err != api.OK && !estate.Same(e, api.Estate{}) {
			t.Errorf("%s: %v, %v", name, err, c)
		}
	}
}

func TestAll(t *testing.T) {
	jobs := []api.Job{to(0, sha256, 5), to(0, sha384, 90), to(2, sha384, 7)}
	e, n, err := job.All(world(), policy(), jobs)
	if n != 3 || err != api.OK || fmt.Sprint(e.Items[0].Links, e.Items[2].Links) != "[{{1 0} 1} {{3 0} 5} {{4 0} 90}] [{{3 0} 1} {{4 0} 7}]" {
		t.Error(e, n, err)
	}
	e, n, err = job.All(world(), policy(), slices.Insert(slices.Clone(jobs), 1, to(0, md5, 20)))
	if want, _ := job.Apply(world(), policy(), jobs[0]); n != 1 || err != api.ErrForbid || !estate.Same(e, want) {
		t.Error(e, n, err)
	}
	e, n, err = job.All(world(), rules, make([]api.Job, 61))
	if n != 0 || err != api.ErrLimit || !estate.Same(e, world()) {
		t.Error(e, n, err)
	}
	e, n, err = job.All(world(), rules, make([]api.Job, 60))
	if n != 0 || err != api.ErrRule || !estate.Same(e, world()) {
		t.Error(e, n, err)
	}
	if e, n, err = job.All(world(), policy(), nil); n != 0 || err != api.OK || !estate.Same(e, world()) {
		t.Error(e, n, err)
	}
}

func TestDueLostDeadline(t *testing.T) {
	due, e := job.Due(world(), policy())
	lost, f := job.Lost(world(), policy())
	if fmt.Sprint(due, lost) != "[0 4 5] [1]" || e != api.OK || f != api.OK {
		t.Error(due, lost, e, f)
	}
	for i, want := range []string{"8 true", "0 false", "0 false", "0 false", "8 true", "99 true"} {
		if day, ok, err := job.Deadline(world(), policy(), i); fmt.Sprint(day, ok) != want || err != api.OK {
			t.Errorf("%d: %d, %v, %v", i, day, ok, err)
		}
	}
	for _, x := range []struct {
		e    api.Estate
		p    api.Policy
		i    int
		want api.Errno
		both api.Errno
	}{{bad, rules, 9, api.ErrEstate, api.ErrEstate}, {world(), rules, 9, api.ErrRule, api.ErrRule}, {world(), policy(), 6, api.ErrJob, api.OK}, {world(), policy(), -1, api.ErrJob, api.OK}} {
		day, ok, err := job.Deadline(x.e, x.p, x.i)
		a, f := job.Due(x.e, x.p)
		b, g := job.Lost(x.e, x.p)
		if day != 0 || ok || err != x.want || f != x.both || g != x.both || f != api.OK && (a != nil || b != nil) {
			t.Error(day, ok, err, f, g)
		}
	}
}

// No item is both; a job in time by a use without a fall makes a due item hold, no job makes a lost one hold.
func TestConsequences(t *testing.T) {
	r := rand.New(rand.NewSource(27))
	uses := []api.Use{md5, sha256, sha384}
	for range 1000 {
		e := api.Estate{Items: []api.Item{item(1+r.Intn(2), 1+r.Intn(150), uses[r.Intn(3)])}}
		e, _, _ = job.All(e, policy(), []api.Job{to(0, uses[r.Intn(3)], 2+r.Intn(60)), to(0, uses[r.Intn(3)], 30+r.Intn(90))})
		due, _ := job.Due(e, policy())
		lost, _ := job.Lost(e, policy())
		fails, ok, _ := lifetime.Fails(policy(), e.Items[0])
		if len(due)+len(lost) > 1 || (len(due)+len(lost) == 1) != (ok && fails <= e.Items[0].Until) {
			t.Fatalf("%v: %v, %v", e, due, lost)
		}
		day, may, _ := job.Deadline(e, policy(), 0)
		if !may {
			day = 300
		}
		after, err := job.Apply(e, policy(), to(0, sha384, day))
		if err != api.OK {
			continue
		}
		due2, _ := job.Due(after, policy())
		lost2, _ := job.Lost(after, policy())
		if len(due) == 1 && len(due2)+len(lost2) > 0 || len(lost) == 1 && len(lost2) != 1 {
			t.Fatalf("%v, %v: %v, %v", e, after, due2, lost2)
		}
	}
}
