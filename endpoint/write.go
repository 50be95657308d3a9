package endpoint

import (
	"slices"
	"strconv"
	"strings"

	"cipherplan/api"
	"cipherplan/basic"
	"cipherplan/catalog"
	"cipherplan/suitespec"
)

// statements returns the words of an endpoint, each with its values behind it.
func statements(e api.Endpoint, aliases []string) ([][]string, api.Errno) {
	if Check(e) != api.OK {
		return nil, api.ErrEndpoint
	}
	if len(aliases) != len(e.Identities) || slices.ContainsFunc(aliases, func(s string) bool { return !basic.Name(s) }) {
		return nil, api.ErrValue
	}
	suites, err := suitespec.Print(e.Suites)
	if err != api.OK {
		return nil, err
	}
	l := [][]string{
		{"least", strconv.Itoa(e.Least)}, {"most", strconv.Itoa(e.Most)}, {"suites", suites},
		{"order", choice(e.OwnOrder, "own", "client")},
	}
	anchors, hashes := []string{"anchors"}, []string{"hashes"}
	for _, key := range e.Anchors {
		anchors = append(anchors, strconv.Itoa(key))
	}
	for _, alg := range e.Hashes {
		hashes = append(hashes, catalog.Name(alg))
	}
	for _, list := range [][]string{append([]string{"keys"}, aliases...), anchors, hashes} {
		if len(list) > 1 {
			l = append(l, list)
		}
	}
	return append(l, []string{"fallback", choice(e.Fallback, "yes", "no")}), api.OK
}

func choice(b bool, yes, no string) string {
	if b {
		return yes
	}
	return no
}

// ToSettings returns the settings of an endpoint.
func ToSettings(e api.Endpoint, aliases []string) ([]api.Setting, api.Errno) {
	said, err := statements(e, aliases)
	if err != api.OK {
		return nil, err
	}
	if len(e.Suites) == 0 {
		return nil, api.ErrValue
	}
	var l []api.Setting
	for _, words := range said {
		l = append(l, api.Setting{Section: e.Name, Name: words[0], Value: strings.Join(words[1:], " ")})
	}
	return l, api.OK
}

// ToBlocks returns the statement of an endpoint.
func ToBlocks(e api.Endpoint, aliases []string) ([]api.Block, api.Errno) {
	said, err := statements(e, aliases)
	if err != api.OK {
		return nil, err
	}
	b := api.Block{Words: []string{"server", e.Name}, Open: true}
	for _, words := range said {
		b.Within = append(b.Within, api.Block{Words: words})
	}
	return []api.Block{b}, api.OK
}
