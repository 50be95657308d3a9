package script

import (
	"strconv"
	"strings"

	"cipherplan/api"
	"cipherplan/change"
	"cipherplan/finding"
)

// Numbers of words in a line: of any act, of a change, and of a finding.
const (
	actWords     = 2
	driftWords   = actWords + 4
	observeWords = actWords + 11
)

// printable reports whether an act can be written.
func printable(a api.Act) bool {
	if !formed(a) {
		return false
	}
	switch a.Kind {
	case api.ActDrift:
		return change.Same(api.Change{Identity: a.Change.Identity}, api.Change{})
	case api.ActObserve:
		return finding.Check(a.Finding) == api.OK
	}
	return true
}

func line(a api.Act) string {
	numbers := []int{a.Kind, a.Number}
	var texts []string
	switch f := a.Finding; a.Kind {
	case api.ActDrift:
		numbers = append(numbers, a.Change.Endpoint, a.Change.Kind, a.Change.Number, a.Change.At)
	case api.ActObserve:
		numbers = append(numbers, f.Day, f.Machine, f.Confidence, f.Source, f.Kind, f.Number, f.Use.Alg, f.Use.Bits)
		texts = []string{f.Host, f.Subject, f.Text}
	}
	var words []string
	for _, n := range numbers {
		words = append(words, strconv.Itoa(n))
	}
	return strings.Join(append(words, texts...), " ") + "\n"
}

// Print returns a line for each act.
func Print(l []api.Act) (string, api.Errno) {
	if len(l) > api.MaxActs {
		return "", api.ErrLimit
	}
	var b strings.Builder
	for _, a := range l {
		if !printable(a) {
			return "", api.ErrAct
		}
		b.WriteString(line(a))
	}
	return b.String(), api.OK
}

// read reads the words of a line as far as they are what they should be; the act is right only if it is written so.
func read(s string) api.Act {
	words := strings.Split(strings.TrimSuffix(s, "\n"), " ")
	number := func(i int) int {
		n, err := strconv.Atoi(words[i])
		if err != nil {
			return 0
		}
		return n
	}
	if len(words) < actWords {
		return api.Act{}
	}
	a := api.Act{Kind: number(0), Number: number(1)}
	switch {
	case a.Kind == api.ActDrift && len(words) == driftWords:
		a.Change = api.Change{Endpoint: number(2), Kind: number(3), Number: number(4), At: number(5)}
	case a.Kind == api.ActObserve && len(words) == observeWords:
		a.Finding = api.Finding{
			Day: number(2), Machine: number(3), Confidence: number(4), Source: number(5), Kind: number(6), Number: number(7),
			Use: api.Use{Alg: number(8), Bits: number(9)}, Host: words[10], Subject: words[11], Text: words[12],
		}
	}
	return a
}

// Parse returns the acts of a text.
func Parse(s string) ([]api.Act, int, api.Errno) {
	lines := strings.SplitAfter(s, "\n")
	if last := len(lines) - 1; lines[last] == "" { // behind the last line end
		lines = lines[:last]
	}
	if len(s) > api.MaxText || len(lines) > api.MaxActs {
		return nil, 0, api.ErrLimit
	}
	var l []api.Act
	for i, x := range lines {
		a := read(x)
		if !printable(a) || line(a) != x {
			return nil, i + 1, api.ErrLine
		}
		l = append(l, a)
	}
	return l, 0, api.OK
}
