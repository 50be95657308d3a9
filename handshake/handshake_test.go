package handshake_test

import (
	"fmt"
	"math/rand"
	"strings"
	"testing"

	"cipherplan/api"
	"cipherplan/handshake"
)

var (
	client = api.Hello{Most: 3, Suites: []int{10, 258}, Hashes: []int{3, 255}}
	server = api.Choice{Version: 3, Suite: 65535, KeyId: api.MaxKey}
)

func upTo(from, n int) []int {
	var l []int
	for i := range n {
		l = append(l, from+i)
	}
	return l
}

func same(a, b api.Hello) bool { return fmt.Sprint(a) == fmt.Sprint(b) }

func TestEncodeHello(t *testing.T) {
	for name, x := range map[string]struct {
		h    api.Hello
		want string
	}{
		"example":    {api.Hello{Most: 3, Suites: []int{10}, Hashes: []int{3}}, "\x01\x03\x01\x00\x0a\x01\x03"},
		"two":        {client, "\x01\x03\x02\x00\x0a\x01\x02\x02\x03\xff"},
		"no hashes":  {api.Hello{Most: 1, Suites: []int{0}}, "\x01\x01\x01\x00\x00\x00"},
		"version 0":  {api.Hello{Suites: []int{1}}, ""},
		"version 5":  {api.Hello{Most: 5, Suites: []int{1}}, ""},
		"no suites":  {api.Hello{Most: 1}, ""},
		"twice":      {api.Hello{Most: 1, Suites: []int{1, 1}}, ""},
		"suite":      {api.Hello{Most: 1, Suites: []int{65536}}, ""},
		"negative":   {api.Hello{Most: 1, Suites: []int{-1}}, ""},
		"17":         {api.Hello{Most: 1, Suites: upTo(0, 17)}, ""},
		"hash 0":     {api.Hello{Most: 1, Suites: []int{1}, Hashes: []int{0}}, ""},
		"hash 256":   {api.Hello{Most: 1, Suites: []int{1}, Hashes: []int{256}}, ""},
		"hash twice": {api.Hello{Most: 1, Suites: []int{1}, Hashes: []int{2, 2}}, ""},
		"17 hashes":  {api.Hello{Most: 1, Suites: []int{1}, Hashes: upTo(1, 17)}, ""},
	} {
		b, e := handshake.EncodeHello(x.h)
		if string(b) != x.want || (e == api.OK) != (x.want != "") || e != api.OK && e != api.ErrMessage {
			t.Errorf("%s: %x, %v", name, b, e)
		}
		if h, c, n, f := handshake.Decode(append(b, 9)); e == api.OK && (!same(h, x.h) || c != (api.Choice{}) || n != len(b) || f != api.OK) {
			t.Errorf("%s: %v, %d, %v", name, h, n, f)
		}
	}
	many := api.Hello{Most: 4, Suites: upTo(65520, 16), Hashes: upTo(1, 16)}
	b, _ := handshake.EncodeHello(many)
	if h, _, n, e := handshake.Decode(b); !same(h, many) || n != 52 || e != api.OK {
		t.Error(h, n, e)
	}
}

func TestEncodeChoice(t *testing.T) {
	b, e := handshake.EncodeChoice(server)
	if string(b) != "\x02\x03\xff\xff\x80\x00\x00\x00" || e != api.OK {
		t.Errorf("%x, %v", b, e)
	}
	if h, c, n, e := handshake.Decode(append(b, 1)); !same(h, api.Hello{}) || c != server || n != 8 || e != api.OK {
		t.Error(c, n, e)
	}
	for _, c := range []api.Choice{{Suite: 1}, {Version: 5}, {Version: 1, Suite: 65536}, {Version: 1, Suite: -1}, {Version: 1, KeyId: -1}, {Version: 1, KeyId: api.MaxKey + 1}} {
		if b, e := handshake.EncodeChoice(c); b != nil || e != api.ErrMessage {
			t.Errorf("%v: %v, %v", c, b, e)
		}
	}
}

func TestDecodeErrors(t *testing.T) {
	for b, want := range map[string]api.Errno{
		"":                                 api.ErrForm,
		"\x03\x01":                         api.ErrForm,
		"\x01":                             api.ErrForm,
		"\x01\x03\x01\x00\x0a":             api.ErrForm,
		"\x01\x03\x01\x00\x0a\x02\x03":     api.ErrForm,
		"\x01\x09\x01\x00":                 api.ErrForm,
		"\x01\x09\x01\x00\x0a\x01\x03":     api.ErrMessage,
		"\x01\x03\x00\x00":                 api.ErrMessage,
		"\x01\x03\x02\x00\x0a\x00\x0a\x00": api.ErrMessage,
		"\x01\x03\x01\x00\x0a\x01\x00":     api.ErrMessage,
		"\x02\x03\xff\xff\x80\x00\x00":     api.ErrForm,
		"\x02\x03\xff\xff\x80\x00\x00\x01": api.ErrMessage,
		"\x02\x00\xff\xff\x00\x00\x00\x01": api.ErrMessage,
	} {
		if h, c, n, e := handshake.Decode([]byte(b)); e != want || n != 0 || c != (api.Choice{}) || !same(h, api.Hello{}) {
			t.Errorf("%x: %v, %v, %d, %v", b, h, c, n, e)
		}
	}
}

func TestRecords(t *testing.T) {
	b, e := handshake.Records([]byte("abcde"), 2)
	if string(b) != "\x16\x00\x02ab\x16\x00\x02cd\x16\x00\x01e" || e != api.OK {
		t.Errorf("%x, %v", b, e)
	}
	if m, e := handshake.Messages(b); string(m) != "abcde" || e != api.OK {
		t.Errorf("%q, %v", m, e)
	}
	if b, e := handshake.Records(nil, 1); len(b) != 0 || e != api.OK {
		t.Error(b, e)
	}
	for _, x := range []struct {
		n, size int
		e       api.Errno
	}{{5000, 0, api.ErrRange}, {5000, 65536, api.ErrRange}, {4097, 65535, api.ErrLimit}, {4096, 1, api.OK}, {4096, 65535, api.OK}} {
		b, e := handshake.Records(make([]byte, x.n), x.size)
		if e != x.e || e != api.OK && b != nil {
			t.Errorf("%v: %v", x, e)
		}
		if m, f := handshake.Messages(b); e == api.OK && (len(m) != x.n || f != api.OK) {
			t.Errorf("%v: %d, %v", x, len(m), f)
		}
	}
	for b, want := range map[string]api.Errno{"": api.OK, "\x16\x00\x00": api.ErrForm, "\x16\x00": api.ErrForm, "\x16\x00\x02a": api.ErrForm, "\x17\x00\x01a": api.ErrForm, "\x16\x00\x01ab": api.ErrForm, strings.Repeat("x", 4*4096+1): api.ErrLimit} {
		if m, e := handshake.Messages([]byte(b)); e != want || len(m) > 0 {
			t.Errorf("%.9x: %v, %v", b, m, e)
		}
	}
}

func TestCapture(t *testing.T) {
	hello, _ := handshake.EncodeHello(client)
	choice, _ := handshake.EncodeChoice(server)
	badHello := append([]byte{1, 9}, hello[2:]...)
	badChoice := append([]byte{2, 9}, choice[2:]...)
	for name, x := range map[string]struct {
		parts [][]byte
		e     api.Errno
	}{
		"good":         {[][]byte{hello, choice}, api.OK},
		"nothing":      {nil, api.ErrForm},
		"one":          {[][]byte{hello}, api.ErrForm},
		"server":       {[][]byte{choice, hello}, api.ErrForm},
		"bad server":   {[][]byte{badChoice, hello}, api.ErrMessage},
		"bad client":   {[][]byte{badHello, choice}, api.ErrMessage},
		"two clients":  {[][]byte{hello, hello}, api.ErrForm},
		"bad second":   {[][]byte{hello, badChoice}, api.ErrMessage},
		"bad client 2": {[][]byte{hello, badHello}, api.ErrMessage},
		"more":         {[][]byte{hello, choice, {0}}, api.ErrForm},
	} {
		var all []byte
		for _, b := range x.parts {
			all = append(all, b...)
		}
		for size := 1; size < 20; size++ {
			b, _ := handshake.Records(all, size)
			h, c, e := handshake.Capture(b)
			if e != x.e || e == api.OK && (!same(h, client) || c != server) || e != api.OK && (!same(h, api.Hello{}) || c != (api.Choice{})) {
				t.Errorf("%s: %v, %v, %v", name, h, c, e)
			}
		}
	}
	if _, _, e := handshake.Capture([]byte{22}); e != api.ErrForm {
		t.Error(e)
	}
	if _, _, e := handshake.Capture(make([]byte, 4*4096+1)); e != api.ErrLimit {
		t.Error(e)
	}
}

// Bytes of any kind are read to an end, and what is read is written in the same bytes.
func TestDecodeAny(t *testing.T) {
	r := rand.New(rand.NewSource(6))
	for range 100000 {
		b := make([]byte, r.Intn(20))
		for i := range b {
			b[i] = byte(r.Intn(4))
		}
		h, c, n, e := handshake.Decode(b)
		if e != api.OK {
			continue
		}
		w, f := handshake.EncodeHello(h)
		if b[0] == 2 {
			w, f = handshake.EncodeChoice(c)
		}
		if f != api.OK || string(w) != string(b[:n]) {
			t.Fatalf("%x: %x, %v", b, w, f)
		}
	}
}

func TestLeastChoice(t *testing.T) {
	b, e := handshake.EncodeChoice(api.Choice{Version: 1})
	if string(b) != "\x02\x01\x00\x00\x00\x00\x00\x00" || e != api.OK {
		t.Errorf("%x, %v", b, e)
	}
}
