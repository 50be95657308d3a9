package journal_test

import (
	"math/rand"
	"slices"
	"strings"
	"testing"

	"cipherplan/api"
	"cipherplan/journal"
	"cipherplan/ledger"
)

func d(day, known, kind, subject, value int) api.Decision {
	return api.Decision{Day: day, Known: known, Kind: kind, Subject: subject, Value: value}
}

func sealed(body string) string {
	n := journal.Sum(body)
	return body + string([]byte{byte(n >> 24), byte(n >> 16), byte(n >> 8), byte(n)})
}

func TestSumAndEncode(t *testing.T) {
	if journal.Sum("") != 2166136261 || journal.Sum("a") != 3826002220 {
		t.Error(journal.Sum(""), journal.Sum("a"))
	}
	for _, x := range []struct {
		d    api.Decision
		body string
	}{{d(40000, 400, 5, 40, 1), "\x00\x9c\x40\x01\x90\x05\x28\x01"}, {d(0, 0, 1, 0, 0), "\x00\x00\x00\x00\x00\x01\x00\x00"}} {
		s, e := journal.Encode(x.d)
		if s != sealed(x.body) || e != api.OK {
			t.Errorf("%x, %v", s, e)
		}
		if got, next, e := journal.Decode("xy"+s+"z", 2); got != x.d || next != 14 || e != api.OK {
			t.Error(got, next, e)
		}
	}
	for _, bad := range []api.Decision{{}, d(40001, 0, 1, 0, 0), d(0, 401, 1, 0, 0), d(0, 0, 6, 0, 0), d(0, 0, 1, 41, 0), d(0, 0, 1, 0, 2), d(-1, 0, 1, 0, 0)} {
		if s, e := journal.Encode(bad); s != "" || e != api.ErrDecision {
			t.Error(s, e)
		}
		if s, e := journal.Append("abc", bad); s != "abc" || e != api.ErrDecision {
			t.Error(s, e)
		}
	}
}

func TestDecodeErrors(t *testing.T) {
	good, _ := journal.Encode(d(5, 0, 1, 0, 0))
	wrong := sealed("\x00\x00\x05\x00\x00\x09\x00\x00")
	for name, x := range map[string]struct {
		s  string
		at int
		e  api.Errno
	}{
		"negative": {good, -1, api.ErrRange}, "far": {good, 13, api.ErrRange}, "end": {good, 12, api.ErrForm}, "short": {good[:11], 0, api.ErrForm}, "behind": {good, 1, api.ErrForm},
		"sum": {good[:11] + "?", 0, api.ErrRecord}, "wrong sum, wrong kind": {wrong[:11] + "?", 0, api.ErrRecord}, "kind": {wrong, 0, api.ErrDecision}, "day": {sealed("\xff\x00\x05\x00\x00\x01\x00\x00"), 0, api.ErrDecision},
	} {
		if got, next, e := journal.Decode(x.s, x.at); got != (api.Decision{}) || next != 0 || e != x.e {
			t.Errorf("%s: %v, %d, %v", name, got, next, e)
		}
	}
}

func written(l ...api.Decision) string {
	s := ""
	for _, x := range l {
		s, _ = journal.Append(s, x)
	}
	return s
}

func TestAppendLimit(t *testing.T) {
	x := d(5, 0, 1, 0, 0)
	long := strings.Repeat("x", 1<<16-12)
	if s, e := journal.Append(long, x); len(s) != 1<<16 || e != api.OK {
		t.Error(len(s), e)
	}
	if s, e := journal.Append(long+"x", x); s != long+"x" || e != api.ErrLimit {
		t.Error(len(s), e)
	}
	if s, e := journal.Append(long+"x", api.Decision{}); s != long+"x" || e != api.ErrDecision {
		t.Error(len(s), e)
	}
}

func TestOpenCrashReplayWhole(t *testing.T) {
	l := []api.Decision{d(1, 0, 3, 2, 1), d(3, 2, 3, 2, 0), d(3, 5, 2, 2, 1)}
	s := written(l...)
	for n := -2; n < 40; n++ {
		for _, torn := range []string{"", "?", s[24:30]} {
			c := journal.Crash(s, n, torn)
			if c != s[:min(max(n, 0), len(s))]+torn {
				t.Fatalf("%d: %x", n, c)
			}
			got, end := journal.Open(c)
			whole := len(c) / 12
			if whole > len(got) && c[12*len(got):12*len(got)+12] == s[12*len(got):12*len(got)+12] || !slices.Equal(got, l[:len(got)]) || end != 12*len(got) || len(got) < min(max(n, 0), 36)/12 {
				t.Fatalf("%d: %v, %d", n, got, end)
			}
			if journal.Whole(c) != s[:end] {
				t.Fatalf("%d: %x", n, journal.Whole(c))
			}
			if r, count := journal.Replay(c); !ledger.Same(r, api.Ledger{Decisions: l[:len(got)]}) || count != len(got) {
				t.Fatalf("%d: %v, %d", n, r, count)
			}
		}
	}
	back := written(d(5, 3, 1, 0, 0), d(4, 3, 1, 0, 0), d(5, 2, 1, 0, 0), d(6, 3, 1, 0, 1))
	if r, n := journal.Replay(back); !ledger.Same(r, api.Ledger{Decisions: []api.Decision{d(5, 3, 1, 0, 0), d(6, 3, 1, 0, 1)}}) || n != 4 {
		t.Error(r, n)
	}
	if l, end := journal.Open(""); l != nil || end != 0 {
		t.Error(l, end)
	}
	many := written(slices.Repeat([]api.Decision{d(5, 0, 1, 0, 0)}, 130)...)
	if r, n := journal.Replay(many); len(r.Decisions) != 128 || n != 130 {
		t.Error(len(r.Decisions), n)
	}
}

// A byte that is changed ends the journal at its decision.
func TestChangedByte(t *testing.T) {
	r := rand.New(rand.NewSource(33))
	s := written(d(1, 0, 3, 2, 1), d(3, 2, 3, 2, 0), d(3, 5, 2, 2, 1), d(3, 5, 2, 3, 1))
	for i := range s {
		b := []byte(s)
		b[i] ^= byte(1 + r.Intn(255))
		if l, end := journal.Open(string(b)); len(l) != i/12 || end != i/12*12 {
			t.Errorf("byte %d: %d, %d", i, len(l), end)
		}
	}
}
