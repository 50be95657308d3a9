package blocks_test

import (
	"math/rand"
	"slices"
	"strings"
	"testing"

	"cipherplan/api"
	"cipherplan/blocks"
)

func st(words ...string) api.Block { return api.Block{Words: words} }

func open(words []string, l ...api.Block) api.Block {
	return api.Block{Words: words, Open: true, Within: l}
}

func TestParse(t *testing.T) {
	for text, want := range map[string][]api.Block{
		"":                                   nil,
		" # a {\n":                           nil,
		"a b{c \"d e\";}":                    {open([]string{"a", "b"}, st("c", "d e"))},
		"a;b{}c{d{}}":                        {st("a"), open([]string{"b"}), open([]string{"c"}, open([]string{"d"}))},
		"a \"\\\"\\\\\" \"\"#x\n;":           {st("a", `"\`, "")},
		"a-_./:*@+!9 x#c\ny \t\n\"\tz\";\n#": {st("a-_./:*@+!9", "x", "y", "\tz")},
	} {
		l, n, e := blocks.Parse(text)
		if !blocks.Same(l, want) || n != 0 || e != api.OK {
			t.Errorf("%q: %v, %d, %v", text, l, n, e)
		}
	}
	l, _, _ := blocks.Parse("\n a\nb {\n c;\n# d\nd; }e;")
	if l[0].Line != 2 || l[0].Within[0].Line != 4 || l[0].Within[1].Line != 6 || l[1].Line != 6 {
		t.Errorf("%v", l)
	}
}

func TestParseErrors(t *testing.T) {
	for text, want := range map[string]int{
		"a":                 1,
		"a\n\n":             3,
		"a{":                1,
		"a{\nb;\n":          3,
		"a;\n}":             2,
		";":                 1,
		"{}":                1,
		"\"a\";":            1,
		"a\n}":              2,
		"a;\na \"b\n\";":    2,
		"a \"b":             1,
		"a \"b\\c\";":       1,
		"a \"b\\":           1,
		"a \"b\"\"c\";":     1,
		"a b\"c\";":         1,
		"a \"b\"c;":         1,
		"a;\n$":             2,
		"a;\n# \x01\n":      2,
		"a;\n# \x7f\n":      2,
		"a;\n\nb \"\x7f\";": 3,
		"a \"\x01\";":       1,
		"a;\r\n":            1,
		"a \\;":             1,
		"a;\n\n}\n$\n\"":    3,
		"a {\nb;\n\n};};":   4,
		"a;\n#\n#\n#\nb\n":  6,
		"a é;":              1,
		"a{b}":              1,
	} {
		if l, n, e := blocks.Parse(text); l != nil || n != want || e != api.ErrForm {
			t.Errorf("%q: %v, %d, %v", text, l, n, e)
		}
	}
}

func TestParseLimits(t *testing.T) {
	nest := func(n int) string { return strings.Repeat("a{", n) + strings.Repeat("}", n) }
	words := func(n int) string { return strings.Repeat("a ", n) + ";" }
	for name, x := range map[string]struct {
		text string
		line int
		e    api.Errno
	}{
		"text":           {strings.Repeat(" ", 8193), 0, api.ErrLimit},
		"as much text":   {strings.Repeat(" ", 8192), 0, api.OK},
		"lines":          {strings.Repeat("\n", 201), 0, api.ErrLimit},
		"as many lines":  {strings.Repeat("\n", 200), 0, api.OK},
		"levels":         {nest(17), 0, api.ErrLimit},
		"as many levels": {nest(16), 0, api.OK},
		"words":          {words(65), 0, api.ErrLimit},
		"as many words":  {words(64), 0, api.OK},
		"form goes first": {nest(17) + words(65) + "\n;", 2,
			api.ErrForm},
		"very deep": {strings.Repeat("a{", 4000), 1, api.ErrForm},
	} {
		if _, n, e := blocks.Parse(x.text); n != x.line || e != x.e {
			t.Errorf("%s: %d, %v", name, n, e)
		}
	}
}

func TestPrint(t *testing.T) {
	l := []api.Block{open([]string{"a", "b"}, st("c", "d e", "", `"\`), open([]string{"x"}), open([]string{"y"}, st("z"))), st("k")}
	want := "a b {\n  c \"d e\" \"\" \"\\\"\\\\\";\n  x {\n  }\n  y {\n    z;\n  }\n}\nk;\n"
	s, e := blocks.Print(l)
	if s != want || e != api.OK {
		t.Errorf("%q, %v", s, e)
	}
	m, _, e := blocks.Parse(s)
	if !blocks.Same(l, m) || e != api.OK {
		t.Errorf("%v, %v", m, e)
	}
	if s, e := blocks.Print([]api.Block{open([]string{"a", "b"}, st("c", "d e"))}); s != "a b {\n  c \"d e\";\n}\n" || e != api.OK {
		t.Errorf("%q, %v", s, e)
	}
}

func deep(n int) []api.Block {
	l := []api.Block{st("a")}
	for range n - 1 {
		l = []api.Block{open([]string{"a"}, l...)}
	}
	return l
}

func TestPrintErrors(t *testing.T) {
	for name, x := range map[string]struct {
		l            []api.Block
		check, print api.Errno
	}{
		"no word":       {[]api.Block{{}}, api.ErrForm, api.ErrForm},
		"quoted first":  {[]api.Block{st("a b")}, api.ErrForm, api.ErrForm},
		"empty first":   {[]api.Block{st("")}, api.ErrForm, api.ErrForm},
		"byte":          {[]api.Block{st("a", "b\n")}, api.ErrForm, api.ErrForm},
		"not open":      {[]api.Block{{Words: []string{"a"}, Within: []api.Block{st("b")}}}, api.ErrForm, api.ErrForm},
		"form, limit":   {append(deep(17), st("")), api.ErrForm, api.ErrForm},
		"levels":        {deep(17), api.ErrLimit, api.ErrLimit},
		"many levels":   {deep(16), api.OK, api.OK},
		"words":         {[]api.Block{st(slices.Repeat([]string{"a"}, 65)...)}, api.ErrLimit, api.ErrLimit},
		"many words":    {[]api.Block{st(slices.Repeat([]string{"a"}, 64)...)}, api.OK, api.OK},
		"lines":         {slices.Repeat([]api.Block{st("a")}, 201), api.OK, api.ErrLimit},
		"many lines":    {slices.Repeat([]api.Block{st("a")}, 200), api.OK, api.OK},
		"bytes":         {[]api.Block{st(strings.Repeat("a", 8191))}, api.OK, api.ErrLimit},
		"many bytes":    {[]api.Block{st(strings.Repeat("a", 8190))}, api.OK, api.OK},
		"quoted bytes":  {[]api.Block{st("a", strings.Repeat(`"`, 4094))}, api.OK, api.ErrLimit},
		"fewer of them": {[]api.Block{st("a", strings.Repeat(`"`, 4093))}, api.OK, api.OK},
	} {
		s, e := blocks.Print(x.l)
		if c := blocks.Check(x.l); c != x.check || e != x.print || e != api.OK && s != "" {
			t.Errorf("%s: %v, %v", name, c, e)
		}
	}
}

// Print of Parse of Print is the same text, and Parse of any text ends.
func TestRandomTexts(t *testing.T) {
	r := rand.New(rand.NewSource(3))
	const letters = "ab \n\t#;{}\"\\$;{}a"
	for range 200000 {
		b := make([]byte, r.Intn(14))
		for i := range b {
			b[i] = letters[r.Intn(len(letters))]
		}
		l, n, e := blocks.Parse(string(b))
		if e != api.OK {
			if n < 1 || n > strings.Count(string(b), "\n")+1 {
				t.Fatalf("%q: line %d", b, n)
			}
			continue
		}
		s, e := blocks.Print(l)
		m, _, f := blocks.Parse(s)
		u, _ := blocks.Print(m)
		if e != api.OK || f != api.OK || !blocks.Same(l, m) || s != u {
			t.Fatalf("%q: %q", b, s)
		}
	}
}

func TestFindAndDepth(t *testing.T) {
	l := []api.Block{open([]string{"a"}, st("b")), st("b", "1"), st("b", "2"), {}}
	found := blocks.Find(l, "b")
	if !blocks.Same(found, l[1:3]) || blocks.Find(l, "c") != nil {
		t.Errorf("%v", found)
	}
	found[0].Words[0] = "x"
	if l[1].Words[0] != "b" {
		t.Error("memory is shared")
	}
	if blocks.Depth(nil) != 0 || blocks.Depth(l[1:]) != 1 || blocks.Depth(l) != 2 || blocks.Depth(deep(40)) != 40 || blocks.Depth([]api.Block{open([]string{"a"})}) != 1 {
		t.Error("depth")
	}
}

func TestSame(t *testing.T) {
	l := []api.Block{open([]string{"a"}, st("b"))}
	m := []api.Block{{Words: []string{"a"}, Open: true, Within: []api.Block{st("b")}, Line: 7}}
	if !blocks.Same(l, m) || blocks.Same(l, nil) || blocks.Same(l, []api.Block{open([]string{"a"})}) || blocks.Same([]api.Block{st("a")}, []api.Block{open([]string{"a"})}) || blocks.Same([]api.Block{st("a")}, []api.Block{st("a", "b")}) {
		t.Error("same")
	}
}
