package settings_test

import (
	"fmt"
	"slices"
	"strings"
	"testing"

	"cipherplan/api"
	"cipherplan/settings"
)

func TestParse(t *testing.T) {
	for text, want := range map[string]string{
		"":                         "[]",
		"\n\n# x = 1\n;y\n \t\n":   "[]",
		"[a]\nx = 1 \\\n  2":       "[{a x 1 2 2}]",
		"x=1\n[ a ]\ny \t=\tb c ":  "[{ x 1 1} {a y b c 3}]",
		"x = \ny = =":              "[{ x  1} { y = 2}]",
		"x = 1\\\n\\\n2\ny = 3":    "[{ x 12 1} { y 3 4}]",
		"\\\n[a]\nx = [b]":         "[{a x [b] 3}]",
		"# no \\\nx = 1\ny = a\tb": "[{ y a\tb 3}]",
		"x = 1 # 2":                "[{ x 1 # 2 1}]",
		"x = 1\\\n\n\ny = 2\n":     "[{ x 1 1} { y 2 4}]",
		"a-b_c.D9 = 1":             "[{ a-b_c.D9 1 1}]",
		"x = 1 \\\n\\\n\ny = 2":    "[{ x 1 1} { y 2 4}]",
	} {
		l, n, e := settings.Parse(text)
		if got := fmt.Sprint(l); got != want || n != 0 || e != api.OK {
			t.Errorf("%q: %s, %d, %v", text, got, n, e)
		}
	}
}

func TestParseErrors(t *testing.T) {
	long := strings.Repeat("x", 33)
	for text, want := range map[string]int{
		"x":                      1,
		"x = 1\n= 2":             2,
		"a b = 1":                1,
		"[a":                     1,
		"[]":                     1,
		"[a b]":                  1,
		"[" + long + "]":         1,
		long + " = 1":            1,
		"[a] = 1":                1,
		"x = 1\ny = 2 \\":        2,
		"x = 1\ny = 2 \\\n":      2,
		"x = \\\n\\":             1,
		"# \x01":                 1,
		"x = \x7f":               1,
		"x = 1\ny = \\\n\xc3\n?": 2,
		"x = 1\r\n":              1,
		"x = 1\n\n[a\nb":         3,
		"y = a\\\\\n":            1,
	} {
		if l, n, e := settings.Parse(text); l != nil || n != want || e != api.ErrForm {
			t.Errorf("%q: %v, %d, %v", text, l, n, e)
		}
	}
	for _, text := range []string{strings.Repeat("#", 8193), strings.Repeat("\n", 201), strings.Repeat("?\n", 201)} {
		if l, n, e := settings.Parse(text); l != nil || n != 0 || e != api.ErrLimit {
			t.Errorf("%v, %d, %v", l, n, e)
		}
	}
	for _, text := range []string{strings.Repeat("#", 8192), strings.Repeat("\n", 200) + "#"} {
		if l, n, e := settings.Parse(text); l != nil || n != 0 || e != api.OK {
			t.Errorf("%v, %d, %v", l, n, e)
		}
	}
}

func TestPrint(t *testing.T) {
	l := []api.Setting{{Name: "x", Value: "1", Line: 9}, {Section: "a", Name: "y"}, {Section: "a", Name: "y", Value: "b c"}, {Section: "b", Name: "z", Value: "#"}, {Section: "a", Name: "z", Value: "="}}
	want := "x = 1\n[a]\ny = \ny = b c\n[b]\nz = #\n[a]\nz = =\n"
	s, e := settings.Print(l)
	if s != want || e != api.OK {
		t.Errorf("%q, %v", s, e)
	}
	m, _, e := settings.Parse(s)
	if e != api.OK || len(m) != len(l) {
		t.Fatalf("%v, %v", m, e)
	}
	for i := range l {
		m[i].Line = l[i].Line
	}
	if !slices.Equal(l, m) {
		t.Errorf("%v", m)
	}
}

func TestPrintErrors(t *testing.T) {
	big := strings.Repeat("v", 100)
	rows := func(n int, value string) []api.Setting {
		return slices.Repeat([]api.Setting{{Name: "x", Value: value}}, n)
	}
	for name, x := range map[string]struct {
		l []api.Setting
		e api.Errno
	}{
		"name":          {[]api.Setting{{Name: "a b"}}, api.ErrForm},
		"no name":       {[]api.Setting{{}}, api.ErrForm},
		"section":       {[]api.Setting{{Section: "a b", Name: "x"}}, api.ErrForm},
		"tab":           {[]api.Setting{{Name: "x", Value: "a\tb"}}, api.ErrForm},
		"line end":      {[]api.Setting{{Name: "x", Value: "a\nb"}}, api.ErrForm},
		"blank before":  {[]api.Setting{{Name: "x", Value: " a"}}, api.ErrForm},
		"blank behind":  {[]api.Setting{{Name: "x", Value: "a "}}, api.ErrForm},
		"backslash":     {[]api.Setting{{Name: "x", Value: `a\`}}, api.ErrForm},
		"byte 127":      {[]api.Setting{{Name: "x", Value: "\x7f"}}, api.ErrForm},
		"inner one":     {[]api.Setting{{Name: "x", Value: `a\b`}}, api.OK},
		"order":         {[]api.Setting{{Section: "a", Name: "x"}, {Name: "y"}}, api.ErrOrder},
		"form, order":   {[]api.Setting{{Section: "a", Name: "x"}, {Name: "y"}, {}}, api.ErrForm},
		"lines":         {rows(201, ""), api.ErrLimit},
		"as many lines": {rows(200, ""), api.OK},
		"text":          {rows(79, big), api.ErrLimit},
		"as much text":  {append(rows(77, big), api.Setting{Name: "x", Value: strings.Repeat("v", 102)}), api.OK},
		"one byte more": {append(rows(77, big), api.Setting{Name: "x", Value: strings.Repeat("v", 103)}), api.ErrLimit},
	} {
		if s, e := settings.Print(x.l); e != x.e || e != api.OK && s != "" {
			t.Errorf("%s: %d, %v", name, len(s), e)
		}
	}
}

func TestGetAndSections(t *testing.T) {
	l := []api.Setting{{Section: "b", Name: "x", Value: "1"}, {Section: "a", Name: "x", Value: "2"}, {Section: "b", Name: "x", Value: "3"}}
	if s, ok := settings.Get(l, "b", "x"); s != "3" || !ok {
		t.Error(s, ok)
	}
	if s, ok := settings.Get(l[:2], "b", "x"); s != "1" || !ok {
		t.Error(s, ok)
	}
	if s, ok := settings.Get(l, "", "x"); s != "" || ok {
		t.Error(s, ok)
	}
	if s := settings.Sections(l); !slices.Equal(s, []string{"b", "a"}) || settings.Sections(nil) != nil {
		t.Error(s)
	}
}

func TestSet(t *testing.T) {
	l := []api.Setting{{Section: "b", Name: "x", Value: "1", Line: 4}, {Section: "a", Name: "x", Value: "2"}, {Section: "b", Name: "x", Value: "3", Line: 7}, {Section: "c", Name: "z"}}
	for name, x := range map[string]struct{ section, name, want string }{
		"last one":    {"b", "x", "[{b x 1 4} {a x 2 0} {b x v 7} {c z  0}]"},
		"new":         {"a", "y", "[{b x 1 4} {a x 2 0} {a y v 0} {b x 3 7} {c z  0}]"},
		"behind last": {"b", "y", "[{b x 1 4} {a x 2 0} {b x 3 7} {b y v 0} {c z  0}]"},
		"new section": {"d", "y", "[{b x 1 4} {a x 2 0} {b x 3 7} {c z  0} {d y v 0}]"},
		"no section":  {"", "y", "[{b x 1 4} {a x 2 0} {b x 3 7} {c z  0} { y v 0}]"},
	} {
		m, e := settings.Set(l, x.section, x.name, "v")
		if fmt.Sprint(m) != x.want || e != api.OK {
			t.Errorf("%s: %v, %v", name, m, e)
		}
		if v, ok := settings.Get(m, x.section, x.name); v != "v" || !ok {
			t.Errorf("%s: %q", name, v)
		}
	}
	if m, e := settings.Set(l[:1], "b", "x", "v"); fmt.Sprint(m) != "[{b x v 4}]" || e != api.OK {
		t.Error(m, e)
	}
	for _, x := range [][3]string{{"a b", "x", "v"}, {"a", "", "v"}, {"a", "x", " v"}, {"a", "x", `v\`}} {
		if m, e := settings.Set(l, x[0], x[1], x[2]); m != nil || e != api.ErrForm {
			t.Errorf("%v: %v, %v", x, m, e)
		}
	}
	if l[2].Value != "3" {
		t.Error("the argument is changed")
	}
}
