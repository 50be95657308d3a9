package certificate_test

import (
	"math/rand"
	"strings"
	"testing"

	"cipherplan/api"
	"cipherplan/certificate"
	"cipherplan/der"
)

func good() api.Certificate {
	return api.Certificate{Serial: 7, Issuer: "root", Subject: "web", Key: api.Use{Alg: api.RSA, Bits: 2048}, KeyId: 5, Hash: api.Use{Alg: api.SHA256}, From: 10, To: 20, Names: []string{"a", "b"}, Seal: api.Seal{Key: 3, Sum: 9}}
}

func pair(a, b int) api.Value { return der.List([]api.Value{der.Int(a), der.Int(b)}) }

func TestCheck(t *testing.T) {
	long := strings.Repeat("x", 33)
	for name, x := range map[string]struct {
		change func(*api.Certificate)
		ok     bool
	}{
		"good":                  {func(c *api.Certificate) {}, true},
		"serial":                {func(c *api.Certificate) { c.Serial = -1 }, false},
		"greatest serial":       {func(c *api.Certificate) { c.Serial = 1 << 40 }, true},
		"too great serial":      {func(c *api.Certificate) { c.Serial = 1<<40 + 1 }, false},
		"issuer":                {func(c *api.Certificate) { c.Issuer = "" }, false},
		"subject with a blank":  {func(c *api.Certificate) { c.Subject = "a b" }, false},
		"long subject":          {func(c *api.Certificate) { c.Subject = long }, false},
		"key of no such size":   {func(c *api.Certificate) { c.Key.Bits = 511 }, false},
		"key of another kind":   {func(c *api.Certificate) { c.Key = api.Use{Alg: api.RSAKX, Bits: 2048} }, false},
		"key id":                {func(c *api.Certificate) { c.KeyId = -1 }, false},
		"greatest key id":       {func(c *api.Certificate) { c.KeyId = api.MaxKey }, true},
		"too great key id":      {func(c *api.Certificate) { c.KeyId = api.MaxKey + 1 }, false},
		"hash of another kind":  {func(c *api.Certificate) { c.Hash = api.Use{Alg: api.ED25519} }, false},
		"hash with a size":      {func(c *api.Certificate) { c.Hash.Bits = 1 }, false},
		"from":                  {func(c *api.Certificate) { c.From = -1 }, false},
		"one day":               {func(c *api.Certificate) { c.To = 10 }, true},
		"to before from":        {func(c *api.Certificate) { c.To = 9 }, false},
		"last day":              {func(c *api.Certificate) { c.To = api.MaxDay }, true},
		"behind the last day":   {func(c *api.Certificate) { c.To = api.MaxDay + 1 }, false},
		"path of no authority":  {func(c *api.Certificate) { c.Path = 1 }, false},
		"path":                  {func(c *api.Certificate) { c.Authority, c.Path = true, 8 }, true},
		"long path":             {func(c *api.Certificate) { c.Authority, c.Path = true, 9 }, false},
		"names in another turn": {func(c *api.Certificate) { c.Names = []string{"b", "a"} }, false},
		"a name twice":          {func(c *api.Certificate) { c.Names = []string{"a", "a"} }, false},
		"a name that is none":   {func(c *api.Certificate) { c.Names = []string{""} }, false},
		"no names":              {func(c *api.Certificate) { c.Names = nil }, true},
		"eight names":           {func(c *api.Certificate) { c.Names = strings.Split("abcdefgh", "") }, true},
		"nine names":            {func(c *api.Certificate) { c.Names = strings.Split("abcdefghi", "") }, false},
		"seal":                  {func(c *api.Certificate) { c.Seal.Key = -1 }, false},
		"greatest sum":          {func(c *api.Certificate) { c.Seal.Sum = 1<<32 - 1 }, true},
		"sum":                   {func(c *api.Certificate) { c.Seal.Sum = 1 << 32 }, false},
	} {
		c := good()
		x.change(&c)
		if (certificate.Check(c) == api.OK) != x.ok {
			t.Errorf("%s: %v", name, certificate.Check(c))
		}
		b, e := certificate.Encode(c)
		s, f := certificate.Bytes(c)
		if !x.ok {
			if e != api.ErrCert || f != api.ErrCert || b != nil || s != nil || certificate.Check(c) != api.ErrCert || certificate.Sealed(c, c.Seal.Key) {
				t.Errorf("%s: %v, %v", name, e, f)
			}
			continue
		}
		if d, e := certificate.Decode(b); e != api.OK || !certificate.Same(c, d) {
			t.Errorf("%s: %v, %v", name, d, e)
		}
	}
}

func TestBytes(t *testing.T) {
	want, _ := der.Encode(der.List([]api.Value{
		der.Int(7), der.Text("root"), der.Text("web"), der.List([]api.Value{der.Int(5), der.Int(2048)}), der.Int(5),
		der.List([]api.Value{der.Int(3), der.Int(0)}), der.Int(10), der.Int(20), der.Bool(false), der.Int(0),
		der.List([]api.Value{der.Text("a"), der.Text("b")}),
	}))
	if b, e := certificate.Bytes(good()); e != api.OK || string(b) != string(want) {
		t.Errorf("%x, %v", b, e)
	}
	b, _ := certificate.Encode(good())
	l, _ := der.AsList(must(der.Decode(b)))
	if s, _ := der.Encode(l[0]); string(s) != string(want) || !der.Same(l[1], der.List([]api.Value{der.Int(3), der.Int(9)})) {
		t.Errorf("%x", b)
	}
}

func must(v api.Value, e api.Errno) api.Value { return v }

func TestSeal(t *testing.T) {
	if certificate.Sum(nil) != 2166136261 || certificate.Sum([]byte{97}) != 3826002220 {
		t.Error("sum")
	}
	c := good()
	c.Seal.Sum = -5 // is replaced
	s, e := certificate.Sign(c, 4)
	b, _ := certificate.Bytes(s)
	if e != api.OK || s.Seal != (api.Seal{Key: 4, Sum: certificate.Sum(b)}) || !certificate.Sealed(s, 4) || certificate.Sealed(s, 3) {
		t.Errorf("%v, %v", s.Seal, e)
	}
	s.Names[0] = "0"
	if c.Names[0] != "a" || certificate.Sealed(s, 4) {
		t.Error("names")
	}
	for _, key := range []int{-1, api.MaxKey + 1} {
		if x, e := certificate.Sign(good(), key); e != api.ErrCert || !certificate.Same(x, api.Certificate{}) {
			t.Errorf("%d: %v", key, e)
		}
	}
	c.Issuer = ""
	if _, e := certificate.Sign(c, 4); e != api.ErrCert {
		t.Error(e)
	}
	c = good()
	s, _ = certificate.Sign(c, 4)
	for _, other := range []func(){func() { s.Serial++ }, func() { s.To++ }, func() { s.Subject = "wea" }, func() { s.Authority = true }} {
		s, _ = certificate.Sign(c, 4)
		if other(); certificate.Sealed(s, 4) {
			t.Errorf("%v is sealed", s)
		}
	}
}

func TestDecodeErrors(t *testing.T) {
	element := func(v api.Value) []byte {
		b, _ := der.Encode(v)
		return b
	}
	c := good()
	signed := func(change func([]api.Value) []api.Value) []byte {
		b, _ := certificate.Bytes(c)
		l, _ := der.AsList(must(der.Decode(b)))
		return element(der.List([]api.Value{der.List(change(l)), pair(1, 2)}))
	}
	for name, x := range map[string]struct {
		b []byte
		e api.Errno
	}{
		"long":         {make([]byte, 4097), api.ErrLimit},
		"no element":   {[]byte{1}, api.ErrForm},
		"a number":     {element(der.Int(1)), api.ErrForm},
		"empty":        {element(der.List(nil)), api.ErrForm},
		"no seal":      {element(der.List([]api.Value{signedOf(c)})), api.ErrForm},
		"one field":    {signed(func(l []api.Value) []api.Value { return l[:10] }), api.ErrForm},
		"one more":     {signed(func(l []api.Value) []api.Value { return append(l, der.Int(1)) }), api.ErrForm},
		"a text":       {signed(func(l []api.Value) []api.Value { l[0] = der.Text("x"); return l }), api.ErrForm},
		"a bool":       {signed(func(l []api.Value) []api.Value { l[8] = der.Int(0); return l }), api.ErrForm},
		"three":        {signed(func(l []api.Value) []api.Value { l[3] = der.List([]api.Value{l[0], l[0], l[0]}); return l }), api.ErrForm},
		"names":        {signed(func(l []api.Value) []api.Value { l[10] = der.List([]api.Value{der.Int(1)}); return l }), api.ErrForm},
		"not valid":    {signed(func(l []api.Value) []api.Value { l[0] = der.Int(-1); return l }), api.ErrCert},
		"a bad number": {signed(func(l []api.Value) []api.Value { l[0], l[1] = der.Int(-1), der.Int(1); return l }), api.ErrForm},
	} {
		if d, e := certificate.Decode(x.b); e != x.e || !certificate.Same(d, api.Certificate{}) {
			t.Errorf("%s: %v, %v", name, d, e)
		}
	}
}

func signedOf(c api.Certificate) api.Value {
	b, _ := certificate.Bytes(c)
	return must(der.Decode(b))
}

// One byte that is another one: no certificate, or one that is not sealed.
func TestOneByte(t *testing.T) {
	c, _ := certificate.Sign(good(), 4)
	b, _ := certificate.Encode(c)
	r := rand.New(rand.NewSource(2))
	for i := range b {
		x := append([]byte{}, b...)
		x[i] ^= byte(1 + r.Intn(255))
		if d, e := certificate.Decode(x); e == api.OK && certificate.Sealed(d, 4) {
			t.Errorf("byte %d: %v", i, d)
		}
	}
}

func TestSame(t *testing.T) {
	for i, change := range []func(*api.Certificate){
		func(c *api.Certificate) { c.Serial++ }, func(c *api.Certificate) { c.Issuer = "x" }, func(c *api.Certificate) { c.Subject = "x" },
		func(c *api.Certificate) { c.Key.Bits++ }, func(c *api.Certificate) { c.KeyId++ }, func(c *api.Certificate) { c.Hash.Alg-- },
		func(c *api.Certificate) { c.From++ }, func(c *api.Certificate) { c.To++ }, func(c *api.Certificate) { c.Authority = true },
		func(c *api.Certificate) { c.Path++ }, func(c *api.Certificate) { c.Names = c.Names[1:] }, func(c *api.Certificate) { c.Seal.Sum++ },
	} {
		c := good()
		if change(&c); certificate.Same(c, good()) {
			t.Errorf("%d", i)
		}
	}
	if !certificate.Same(good(), good()) {
		t.Error("equal ones")
	}
}

func TestLeastNumbers(t *testing.T) {
	c := api.Certificate{Issuer: "a", Subject: "b", Key: api.Use{Alg: api.ED25519}, Hash: api.Use{Alg: api.MD5}}
	s, e := certificate.Sign(c, 0)
	if certificate.Check(c) != api.OK || e != api.OK || !certificate.Sealed(s, 0) {
		t.Error(s, e)
	}
}
