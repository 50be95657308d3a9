package blocks

import (
	"slices"
	"strings"

	"cipherplan/api"
	"cipherplan/basic"
)

// Kinds of tokens beside ; { and }, which stand for themselves.
const (
	tokenWrong  = 0
	tokenEnd    = 1
	tokenPlain  = 2
	tokenQuoted = 3
)

type token struct {
	kind  byte
	word  string
	line  int
	apart bool // it does not touch the token before
}

func (t token) isWord() bool { return t.kind == tokenPlain || t.kind == tokenQuoted }

type parser struct {
	text      string
	at, line  int
	token     token    // the one to be looked at
	words     []string // of all statements, one behind the other
	deepest   int
	mostWords int
}

// plain reports whether a byte can stand in a plain word.
func plain(b byte) bool { return basic.Letter(b) || strings.IndexByte("-_./:*@+!", b) >= 0 }

func permitted(b byte) bool { return b == '\t' || basic.In(int(b), 32, 126) }

// next goes on to the next token.
func (p *parser) next() {
	from := p.at
	ok := p.skip()
	p.token = token{line: p.line, apart: p.at > from}
	switch {
	case !ok:
		return
	case p.at == len(p.text):
		p.token.kind = tokenEnd
	case p.text[p.at] == '"':
		p.quoted()
	case plain(p.text[p.at]):
		from = p.at
		for p.at < len(p.text) && plain(p.text[p.at]) {
			p.at++
		}
		p.token.kind, p.token.word = tokenPlain, p.text[from:p.at]
	case strings.IndexByte(";{}", p.text[p.at]) >= 0:
		p.token.kind = p.text[p.at]
		p.at++
	}
}

// skip passes over blanks and comments; it reports whether all of their bytes are permitted.
func (p *parser) skip() bool {
	comment := false
	for ; p.at < len(p.text); p.at++ {
		switch b := p.text[p.at]; {
		case b == '\n':
			p.line++
			comment = false
		case comment && !permitted(b):
			return false
		case b == '#':
			comment = true
		case !comment && b != ' ' && b != '\t':
			return true
		}
	}
	return true
}

func (p *parser) quoted() {
	var word []byte
	for p.at++; p.at < len(p.text) && permitted(p.text[p.at]); p.at++ {
		switch b := p.text[p.at]; b {
		case '"':
			p.at++
			p.token.kind, p.token.word = tokenQuoted, string(word)
			return
		case '\\':
			p.at++
			if p.at == len(p.text) || p.text[p.at] != '"' && p.text[p.at] != '\\' {
				return
			}
			word = append(word, p.text[p.at])
		default:
			word = append(word, b)
		}
	}
}

// statements reads statements up to the } or the end behind them.
func (p *parser) statements(depth int) ([]api.Block, bool) {
	var l []api.Block
	for p.token.kind == tokenPlain {
		b, ok := p.statement(depth)
		if !ok {
			return nil, false
		}
		l = append(l, b)
	}
	if depth == 1 {
		return l, p.token.kind == tokenEnd
	}
	return l, p.token.kind == '}'
}

func (p *parser) statement(depth int) (api.Block, bool) {
	b := api.Block{Line: p.token.line}
	p.deepest = max(p.deepest, depth)
	from := len(p.words)
	for p.token.isWord() {
		if len(p.words) > from && !p.token.apart {
			return b, false
		}
		p.words = append(p.words, p.token.word)
		p.next()
	}
	to := len(p.words)
	b.Words = slices.Clone(p.words[from:to:to])
	p.mostWords = max(p.mostWords, to-from)
	if p.token.kind == '{' {
		b.Open = true
		p.next()
		within, ok := p.statements(depth + 1)
		if !ok {
			return b, false
		}
		b.Within = within
	} else if p.token.kind != ';' {
		return b, false
	}
	p.next()
	return b, true
}

// Parse returns the statements of a text.
func Parse(text string) ([]api.Block, int, api.Errno) {
	if len(text) > api.MaxText || strings.Count(text, "\n") > api.MaxLines {
		return nil, 0, api.ErrLimit
	}
	p := parser{text: text, line: 1}
	p.next()
	l, ok := p.statements(1)
	if !ok {
		return nil, p.token.line, api.ErrForm
	}
	if p.deepest > api.MaxDepth || p.mostWords > api.MaxEntries {
		return nil, 0, api.ErrLimit
	}
	return l, 0, api.OK
}
