package der_test

import (
	"bytes"
	"math"
	"math/rand"
	"testing"

	"cipherplan/api"
	"cipherplan/der"
)

func leaf(tag int, b ...byte) api.Value { return api.Value{Tag: tag, Bytes: b} }

func list(l ...api.Value) api.Value { return api.Value{Tag: 48, Nested: true, Elements: l} }

func deep(n int) api.Value {
	v := list()
	for range n - 1 {
		v = list(v)
	}
	return v
}

func TestExamples(t *testing.T) {
	for want, v := range map[string]api.Value{
		"\x02\x01\x05":                         der.Int(5),
		"\x02\x02\xff\x7f":                     der.Int(-129),
		"\x30\x07\x02\x01\x05\x02\x02\xff\x7f": der.List([]api.Value{der.Int(5), der.Int(-129)}),
		"\x0c\x02hi":                           der.Text("hi"),
		"\x01\x01\xff":                         der.Bool(true),
		"\x01\x01\x00":                         der.Bool(false),
		"\x30\x00":                             der.List(nil),
	} {
		if b, e := der.Encode(v); e != api.OK || string(b) != want {
			t.Errorf("%x, %v, want %x", b, e, want)
		}
	}
}

func TestLengths(t *testing.T) {
	for n, want := range map[int]string{127: "\x04\x7f", 128: "\x04\x81\x80", 255: "\x04\x81\xff", 256: "\x04\x82\x01\x00"} {
		b, e := der.Encode(leaf(4, make([]byte, n)...))
		if e != api.OK || len(b) != len(want)+n || string(b[:len(want)]) != want {
			t.Errorf("%d: %x, %v", n, b, e)
		}
		if v, e := der.Decode(b); e != api.OK || len(v.Bytes) != n {
			t.Errorf("%d: %v", n, e)
		}
	}
}

func TestEncodeErrors(t *testing.T) {
	for name, x := range map[string]struct {
		v api.Value
		e api.Errno
	}{
		"tag 0":            {leaf(0), api.ErrForm},
		"tag 63":           {api.Value{Tag: 63, Nested: true}, api.ErrForm},
		"tag 256":          {leaf(256), api.ErrForm},
		"nested":           {api.Value{Tag: 4, Nested: true}, api.ErrForm},
		"bytes":            {api.Value{Tag: 48, Nested: true, Bytes: []byte{1}}, api.ErrForm},
		"elements":         {api.Value{Tag: 4, Elements: []api.Value{leaf(4)}}, api.ErrForm},
		"form goes first":  {list(deep(20), leaf(4, make([]byte, 5000)...), leaf(31)), api.ErrForm},
		"deep":             {deep(17), api.ErrLimit},
		"deep, but not so": {deep(16), api.OK},
		"long":             {leaf(4, make([]byte, 4093)...), api.ErrLimit},
		"long, but not so": {leaf(4, make([]byte, 4092)...), api.OK},
	} {
		b, e := der.Encode(x.v)
		if e != x.e || e != api.OK && b != nil {
			t.Errorf("%s: %v, %v", name, b, e)
		}
	}
}

func TestDecodeErrors(t *testing.T) {
	sixteen, _ := der.Encode(deep(16))
	deeper := append([]byte{48, 32}, sixteen...)
	for name, x := range map[string]struct {
		b []byte
		e api.Errno
	}{
		"nothing":        {nil, api.ErrForm},
		"only a tag":     {[]byte{4}, api.ErrForm},
		"tag 31":         {[]byte{31, 0}, api.ErrForm},
		"cut off":        {[]byte{4, 2, 1}, api.ErrForm},
		"too much":       {[]byte{4, 0, 4, 0}, api.ErrForm},
		"long length":    {[]byte{4, 129, 1, 7}, api.ErrForm},
		"no length":      {[]byte{48, 128}, api.ErrForm},
		"huge length":    {append([]byte{4, 136}, bytes.Repeat([]byte{255}, 8)...), api.ErrForm},
		"zeros":          {append([]byte{4, 130, 0, 128}, make([]byte, 128)...), api.ErrForm},
		"within":         {[]byte{48, 2, 4, 1}, api.ErrForm},
		"deep":           {deeper, api.ErrLimit},
		"deep, cut":      {deeper[:33], api.ErrForm},
		"more than many": {make([]byte, 4097), api.ErrLimit},
		"very deep":      {bytes.Repeat([]byte{48}, 4096), api.ErrForm},
	} {
		if v, e := der.Decode(x.b); e != x.e || !der.Same(v, api.Value{}) {
			t.Errorf("%s: %v, %v", name, v, e)
		}
	}
	if l, e := der.All(append(deeper, 4, 0)); e != api.ErrLimit || l != nil {
		t.Errorf("%v, %v", l, e)
	}
	if l, e := der.All(nil); e != api.OK || len(l) != 0 {
		t.Errorf("%v, %v", l, e)
	}
	if l, e := der.All([]byte{4, 1, 9, 5, 0}); e != api.OK || len(l) != 2 || !der.Same(l[0], leaf(4, 9)) || !der.Same(l[1], leaf(5)) {
		t.Errorf("%v, %v", l, e)
	}
}

func random(r *rand.Rand, depth int) api.Value {
	if r.Intn(3) > 0 || depth == 0 {
		v := leaf(r.Intn(31), make([]byte, r.Intn(300))...)
		r.Read(v.Bytes)
		return v
	}
	v := api.Value{Tag: 32 + r.Intn(31), Nested: true}
	for range r.Intn(4) {
		v.Elements = append(v.Elements, random(r, depth-1))
	}
	return v
}

func TestDecodeOfEncode(t *testing.T) {
	r := rand.New(rand.NewSource(1))
	for range 2000 {
		v := random(r, 4)
		b, e := der.Encode(v)
		if e != api.OK {
			continue
		}
		w, e := der.Decode(b)
		if e != api.OK || !der.Same(v, w) {
			t.Fatalf("%v: %v, %v", v, w, e)
		}
		b[r.Intn(len(b))] ^= byte(1 << r.Intn(8))
		if w, e = der.Decode(b); e == api.OK {
			if c, f := der.Encode(w); f != api.OK || !bytes.Equal(b, c) {
				t.Fatalf("%x is written %x, %v", b, c, f)
			}
		}
	}
}

func TestInt(t *testing.T) {
	for _, n := range []int{0, 1, -1, 127, 128, -128, -129, 255, 256, 32767, 32768, 1 << 40, math.MaxInt, math.MinInt} {
		if m, e := der.AsInt(der.Int(n)); m != n || e != api.OK {
			t.Errorf("%d: %d, %v", n, m, e)
		}
	}
	for _, v := range []api.Value{leaf(2), leaf(2, 0, 1), leaf(2, 255, 128), leaf(2, 1, 0, 0, 0, 0, 0, 0, 0, 0), leaf(3, 1), {Tag: 2, Nested: true, Bytes: []byte{1}}} {
		if n, e := der.AsInt(v); n != 0 || e != api.ErrForm {
			t.Errorf("%v: %d, %v", v, n, e)
		}
	}
}

func TestAsOthers(t *testing.T) {
	if s, e := der.AsText(der.Text(" ~")); s != " ~" || e != api.OK {
		t.Errorf("%q, %v", s, e)
	}
	for _, v := range []api.Value{der.Text("\x1f"), der.Text("\x7f"), leaf(13, 'a'), {Tag: 12, Nested: true}} {
		if s, e := der.AsText(v); s != "" || e != api.ErrForm {
			t.Errorf("%v: %q, %v", v, s, e)
		}
	}
	if b, e := der.AsBool(der.Bool(true)); !b || e != api.OK {
		t.Error(b, e)
	}
	for _, v := range []api.Value{leaf(1), leaf(1, 1), leaf(1, 255, 255), leaf(2, 255)} {
		if b, e := der.AsBool(v); b || e != api.ErrForm {
			t.Errorf("%v: %v, %v", v, b, e)
		}
	}
	if l, e := der.AsList(der.List([]api.Value{der.Int(1), deep(30)})); e != api.OK || len(l) != 2 || !der.Same(l[1], deep(30)) {
		t.Errorf("%v, %v", l, e)
	}
	for _, v := range []api.Value{{Tag: 48}, {Tag: 49, Nested: true}, list(leaf(0)), leaf(4)} {
		if l, e := der.AsList(v); l != nil || e != api.ErrForm {
			t.Errorf("%v: %v, %v", v, l, e)
		}
	}
}

func TestSame(t *testing.T) {
	a := list(leaf(4, 1), list(leaf(5)))
	for _, b := range []api.Value{list(leaf(4, 1)), list(leaf(4, 2), list(leaf(5))), list(leaf(6, 1), list(leaf(5))), list(leaf(4, 1), list(leaf(5), leaf(5))), {Tag: 48, Elements: a.Elements}} {
		if der.Same(a, b) || der.Same(b, a) {
			t.Errorf("%v", b)
		}
	}
	if !der.Same(a, list(leaf(4, 1), api.Value{Tag: 48, Nested: true, Bytes: []byte{}, Elements: []api.Value{leaf(5)}})) {
		t.Error("equal ones")
	}
}

func TestOwnMemory(t *testing.T) {
	l := []api.Value{leaf(4, 1)}
	v := der.List(l)
	m, _ := der.AsList(v)
	l[0].Bytes[0] = 2
	v.Elements[0].Bytes[0] = 3
	if m[0].Bytes[0] != 1 {
		t.Error("memory is shared")
	}
}

func TestJustPermitted(t *testing.T) {
	b, _ := der.Encode(deep(16))
	if v, e := der.Decode(b); e != api.OK || !der.Same(v, deep(16)) {
		t.Error(e)
	}
	if n, e := der.AsInt(leaf(2, 1, 0, 0, 0, 0, 0, 0, 0, 0)); n != 0 || e != api.ErrForm {
		t.Error(n, e)
	}
}
