package window_test

import (
	"fmt"
	"math/rand"
	"slices"
	"testing"

	"cipherplan/api"
	"cipherplan/window"
)

func w(from, to int, teams ...int) api.Window {
	return api.Window{Days: api.Span{From: from, To: to}, Teams: teams}
}

// calendar: three windows, two teams with room for one and two.
func calendar() api.Calendar {
	return api.Calendar{Windows: []api.Window{w(10, 12, 0, 1), w(12, 15, 1), w(20, 30, 0)}, Team: []int{0, 1, 1}, Room: []int{1, 2}}
}

func TestCheck(t *testing.T) {
	var many []api.Window
	for i := range 33 {
		many = append(many, w(i, i+1))
	}
	for name, x := range map[string]struct {
		change func(c *api.Calendar)
		e      api.Errno
	}{
		"good":           {func(c *api.Calendar) {}, api.OK},
		"32 windows":     {func(c *api.Calendar) { c.Windows = many[:32] }, api.OK},
		"33 windows":     {func(c *api.Calendar) { c.Windows, c.Room = many, []int{-1} }, api.ErrLimit},
		"8 teams":        {func(c *api.Calendar) { c.Room = make([]int, 8) }, api.OK},
		"9 teams":        {func(c *api.Calendar) { c.Room = make([]int, 9) }, api.ErrLimit},
		"room":           {func(c *api.Calendar) { c.Room[1], c.Windows[0].Days.From = 25, -1 }, api.ErrRange},
		"much room":      {func(c *api.Calendar) { c.Room[1] = 24 }, api.OK},
		"negative room":  {func(c *api.Calendar) { c.Room[0] = -1 }, api.ErrRange},
		"from":           {func(c *api.Calendar) { c.Windows[0].Days.From, c.Windows[1].Teams = -1, []int{1, 0} }, api.ErrWindow},
		"no days":        {func(c *api.Calendar) { c.Windows[2].Days.To = 20 }, api.ErrWindow},
		"to":             {func(c *api.Calendar) { c.Windows[2].Days.To = 40002 }, api.ErrWindow},
		"last day":       {func(c *api.Calendar) { c.Windows[2].Days.To = 40001 }, api.OK},
		"overlap":        {func(c *api.Calendar) { c.Windows[0].Days.To, c.Windows[2].Teams = 13, []int{9} }, api.ErrOrder},
		"windows' order": {func(c *api.Calendar) { slices.Reverse(c.Windows) }, api.ErrOrder},
		"teams' order":   {func(c *api.Calendar) { c.Windows[0].Teams = []int{1, 0} }, api.ErrOrder},
		"team twice":     {func(c *api.Calendar) { c.Windows[2].Teams = []int{9, 9} }, api.ErrOrder},
		"no team":        {func(c *api.Calendar) { c.Windows[2].Teams, c.Team = []int{2}, nil }, api.ErrRange},
		"negative team":  {func(c *api.Calendar) { c.Windows[2].Teams = []int{-1} }, api.ErrRange},
		"endpoint":       {func(c *api.Calendar) { c.Team[0] = 2 }, api.ErrForm},
		"negative":       {func(c *api.Calendar) { c.Team[0] = -1 }, api.ErrForm},
	} {
		c := calendar()
		x.change(&c)
		if e := window.Check(c, 3); e != x.e {
			t.Errorf("%s: %v", name, e)
		}
		i, in, a := window.At(c, 1)
		_, b := window.May(c, 99, 1)
		next, found, d := window.Next(c, 99, 1)
		_, f := window.Load(c, []int{1}, nil)
		g := window.Fits(c, []int{1}, nil)
		day, ok, h := window.Earliest(c, []int{1}, nil, 99, 0)
		if a != api.OK && (i != 0 || in) || next != 0 || found || day != 0 || ok {
			t.Errorf("%s: %d, %d, %d", name, i, next, day)
		}
		if x.e != api.OK && (a != x.e || b != x.e || d != x.e || f != x.e || g != x.e || h != x.e) {
			t.Errorf("%s: %v %v %v %v %v %v", name, a, b, d, f, g, h)
		}
		if x.e == api.OK && (a != api.OK || b != api.ErrRange || d != api.ErrRange || f != api.ErrForm || g != api.ErrForm || h != api.ErrForm) {
			t.Errorf("%s: %v %v %v %v %v %v", name, a, b, d, f, g, h)
		}
	}
	if window.Check(calendar(), 2) != api.ErrForm || window.Check(calendar(), 4) != api.ErrForm || window.Check(calendar(), -1) != api.ErrForm || window.Check(api.Calendar{}, 0) != api.OK {
		t.Error("endpoints")
	}
}

func TestAtMayNext(t *testing.T) {
	c := calendar()
	for day, want := range map[int]string{9: "0 false", 10: "0 true", 11: "0 true", 12: "1 true", 15: "0 false", 29: "2 true", 30: "0 false", -1: "0 false"} {
		if i, ok, e := window.At(c, day); fmt.Sprint(i, ok) != want || e != api.OK {
			t.Errorf("%d: %d, %v, %v", day, i, ok, e)
		}
	}
	for _, x := range []struct {
		team, day int
		may       bool
		next      string
	}{{0, 9, false, "10 true"}, {0, 11, true, "11 true"}, {0, 12, false, "20 true"}, {1, 12, true, "12 true"}, {1, 15, false, "0 false"}, {0, 30, false, "0 false"}, {1, -5, false, "10 true"}} {
		ok, e := window.May(c, x.team, x.day)
		day, found, f := window.Next(c, x.team, x.day)
		if ok != x.may || fmt.Sprint(day, found) != x.next || e != api.OK || f != api.OK {
			t.Errorf("%v: %v, %d, %v", x, ok, day, found)
		}
	}
	c.Windows[0].Days.From = 0
	if day, ok, _ := window.Next(c, 1, -5); day != 0 || !ok {
		t.Error(day, ok)
	}
	for _, team := range []int{-1, 2} {
		if _, e := window.May(c, team, 10); e != api.ErrRange {
			t.Error(e)
		}
		if _, _, e := window.Next(c, team, 10); e != api.ErrRange {
			t.Error(e)
		}
	}
}

func TestLoadFitsEarliest(t *testing.T) {
	c := calendar()
	for name, x := range map[string]struct {
		teams, days []int
		load        string
		le, fe      api.Errno
	}{
		"none":     {nil, nil, "[[0 0] [0 0] [0 0]]", api.OK, api.OK},
		"some":     {[]int{0, 1, 1, 0}, []int{11, 10, 14, 20}, "[[1 1] [0 1] [1 0]]", api.OK, api.OK},
		"too many": {[]int{0, 0}, []int{10, 11}, "[[2 0] [0 0] [0 0]]", api.OK, api.ErrFull},
		"no work":  {[]int{0, 0, 0}, []int{10, 11, 12}, "[]", api.ErrWindow, api.ErrWindow},
		"no day":   {[]int{1}, []int{15}, "[]", api.ErrWindow, api.ErrWindow},
		"team":     {[]int{1, 2}, []int{15, 10}, "[]", api.ErrRange, api.ErrRange},
		"form":     {[]int{2}, []int{10, 10}, "[]", api.ErrForm, api.ErrForm},
		"25":       {slices.Repeat([]int{2}, 25), make([]int, 25), "[]", api.ErrLimit, api.ErrLimit},
	} {
		l, e := window.Load(c, x.teams, x.days)
		f := window.Fits(c, x.teams, x.days)
		day, _, g := window.Earliest(c, x.teams, x.days, 0, 0)
		if g != api.OK && day != 0 {
			t.Errorf("%s: %d", name, day)
		}
		if fmt.Sprint(l) != x.load || e != x.le || f != x.fe || g != x.fe {
			t.Errorf("%s: %v, %v, %v, %v", name, l, e, f, g)
		}
	}
	if e := window.Fits(c, slices.Repeat([]int{0}, 24), slices.Repeat([]int{10}, 24)); e != api.ErrFull {
		t.Error(e)
	}
	if e := window.Fits(c, slices.Repeat([]int{2}, 25), make([]int, 24)); e != api.ErrForm {
		t.Error(e)
	}
	for _, x := range []struct {
		team, from int
		want       string
		e          api.Errno
	}{{0, -9, "20 true", api.OK}, {0, 25, "25 true", api.OK}, {0, 30, "0 false", api.OK}, {1, 0, "10 true", api.OK}, {1, 12, "12 true", api.OK}, {2, 0, "0 false", api.ErrRange}, {-1, 0, "0 false", api.ErrRange}} {
		if day, ok, e := window.Earliest(c, []int{0, 1}, []int{10, 10}, x.team, x.from); fmt.Sprint(day, ok) != x.want || e != x.e {
			t.Errorf("%v: %d, %v, %v", x, day, ok, e)
		}
	}
	if _, _, e := window.Earliest(c, []int{0}, []int{12}, 2, 0); e != api.ErrRange {
		t.Error(e)
	}
}

// Earliest is the first day on which Fits has no error with one more change.
func TestEarliestIsFirst(t *testing.T) {
	r := rand.New(rand.NewSource(23))
	for range 1000 {
		c := calendar()
		var teams, days []int
		for range r.Intn(5) {
			teams, days = append(teams, r.Intn(2)), append(days, r.Intn(32))
			if window.Fits(c, teams, days) != api.OK {
				teams, days = teams[:len(teams)-1], days[:len(days)-1]
			}
		}
		team, from := r.Intn(2), r.Intn(32)
		got, ok, _ := window.Earliest(c, teams, days, team, from)
		want, found := 0, false
		for day := from; day < 40 && !found; day++ {
			if window.Fits(c, append(slices.Clone(teams), team), append(slices.Clone(days), day)) == api.OK {
				want, found = day, true
			}
		}
		if got != want || ok != found {
			t.Fatalf("%v, %v, team %d from %d: %d, %d", teams, days, team, from, got, want)
		}
	}
}
