package endpoint

import (
	"slices"
	"strings"

	"cipherplan/api"
	"cipherplan/basic"
	"cipherplan/catalog"
	"cipherplan/keystore"
	"cipherplan/suitespec"
)

// maker makes an endpoint out of words with values.
type maker struct {
	endpoint api.Endpoint
	store    []api.Entry
	words    map[string]func([]string) bool // what each word does with its values; false if they are not permitted
}

func newMaker(name string, store []api.Entry) (*maker, api.Errno) {
	if !basic.Word(name) {
		return nil, api.ErrName
	}
	if keystore.Check(store) != api.OK {
		return nil, api.ErrKeystore
	}
	all, _, _ := suitespec.Parse("all")
	m := &maker{store: store, endpoint: api.Endpoint{Name: name, Least: 1, Most: api.MaxProtocol, Suites: all}}
	e := &m.endpoint
	m.words = map[string]func([]string) bool{
		"least":    single(version(&e.Least)),
		"most":     single(version(&e.Most)),
		"suites":   single(m.suites),
		"order":    single(either("own", "client", &e.OwnOrder)),
		"keys":     m.keys,
		"anchors":  m.anchors,
		"hashes":   m.hashes,
		"fallback": single(either("yes", "no", &e.Fallback)),
	}
	return m, api.OK
}

// lists reports whether a word has a list of values.
func lists(word string) bool { return word == "keys" || word == "anchors" || word == "hashes" }

func single(f func(string) bool) func([]string) bool {
	return func(l []string) bool { return len(l) == 1 && f(l[0]) }
}

func version(to *int) func(string) bool {
	return func(s string) bool {
		n, ok := basic.Number(s)
		*to = n
		return ok && basic.In(n, 1, api.MaxProtocol)
	}
}

func either(yes, no string, to *bool) func(string) bool {
	return func(s string) bool {
		*to = s == yes
		return s == yes || s == no
	}
}

func (m *maker) suites(s string) bool {
	l, _, e := suitespec.Parse(s)
	m.endpoint.Suites = l
	return e == api.OK
}

func (m *maker) keys(aliases []string) bool {
	if len(aliases) > api.MaxIdentities {
		return false
	}
	for _, alias := range aliases {
		x, ok := keystore.Find(m.store, alias)
		if !ok {
			return false
		}
		m.endpoint.Identities = append(m.endpoint.Identities, api.Identity{Key: x.Key, KeyId: x.KeyId, Chain: x.Chain})
	}
	return true
}

func (m *maker) anchors(l []string) bool {
	if len(l) > api.MaxAnchors {
		return false
	}
	for _, s := range l {
		n, ok := basic.Number(s)
		if !ok {
			return false
		}
		m.endpoint.Anchors = append(m.endpoint.Anchors, n)
	}
	slices.Sort(m.endpoint.Anchors)
	return anchors(m.endpoint.Anchors)
}

func (m *maker) hashes(names []string) bool {
	for _, name := range names {
		m.endpoint.Hashes = append(m.endpoint.Hashes, catalog.Find(name))
	}
	slices.Sort(m.endpoint.Hashes)
	return hashes(m.endpoint.Hashes)
}

// done returns the endpoint; its versions were said one by one.
func (m *maker) done() (api.Endpoint, int, api.Errno) {
	if m.endpoint.Least > m.endpoint.Most {
		return api.Endpoint{}, 0, api.ErrEndpoint
	}
	return m.endpoint, 0, api.OK
}

// FromSettings returns the endpoint of a section.
func FromSettings(l []api.Setting, name string, store []api.Entry) (api.Endpoint, int, api.Errno) {
	m, e := newMaker(name, store)
	if e != api.OK {
		return api.Endpoint{}, 0, e
	}
	last := map[string]int{}
	for i, x := range l {
		if x.Section == name {
			last[x.Name] = i
		}
	}
	if len(last) == 0 {
		return api.Endpoint{}, 0, api.ErrNone
	}
	for _, x := range l {
		if x.Section == name && m.words[x.Name] == nil {
			return api.Endpoint{}, x.Line, api.ErrWord
		}
	}
	for i, x := range l {
		if x.Section == name && last[x.Name] == i && !m.words[x.Name](values(x)) {
			return api.Endpoint{}, x.Line, api.ErrValue
		}
	}
	return m.done()
}

func values(x api.Setting) []string {
	if !lists(x.Name) {
		return []string{x.Value}
	}
	return strings.FieldsFunc(x.Value, func(r rune) bool { return r == ' ' })
}

// FromBlocks returns the endpoint of a statement.
func FromBlocks(l []api.Block, name string, store []api.Entry) (api.Endpoint, int, api.Errno) {
	m, e := newMaker(name, store)
	if e != api.OK {
		return api.Endpoint{}, 0, e
	}
	at := slices.IndexFunc(l, func(b api.Block) bool { return b.Open && slices.Equal(b.Words, []string{"server", name}) })
	if at < 0 {
		return api.Endpoint{}, 0, api.ErrNone
	}
	within := l[at].Within
	for _, b := range within {
		if b.Open || len(b.Words) == 0 || m.words[b.Words[0]] == nil {
			return api.Endpoint{}, b.Line, api.ErrWord
		}
	}
	said := map[string]bool{}
	for _, b := range within {
		if said[b.Words[0]] {
			return api.Endpoint{}, b.Line, api.ErrTwice
		}
		said[b.Words[0]] = true
	}
	for _, b := range within {
		if !m.words[b.Words[0]](b.Words[1:]) {
			return api.Endpoint{}, b.Line, api.ErrValue
		}
	}
	return m.done()
}
