package keystore_test

import (
	"fmt"
	"strings"
	"testing"

	"cipherplan/api"
	"cipherplan/der"
	"cipherplan/keystore"
)

var rsa = api.Use{Alg: api.RSA, Bits: 2048}

func cert(key int) api.Certificate {
	return api.Certificate{Issuer: "root", Subject: "web", Key: rsa, KeyId: key, Hash: api.Use{Alg: api.SHA256}, From: 1, To: 9, Names: []string{"web"}}
}

func entry1(alias string, key int, certs ...api.Certificate) api.Entry {
	return api.Entry{Alias: alias, Key: rsa, KeyId: key, Chain: certs}
}

func store() []api.Entry {
	l := []api.Entry{entry1("a", 1, cert(1), cert(7)), entry1("b", 2)}
	l[1].Secret = true
	return l
}

func many(n int) []api.Entry {
	var l []api.Entry
	for i := range n {
		l = append(l, entry1(fmt.Sprintf("%03d", i), i))
	}
	return l
}

func TestCheck(t *testing.T) {
	for name, x := range map[string]struct {
		change func(l []api.Entry) []api.Entry
		e      api.Errno
	}{
		"good":         {func(l []api.Entry) []api.Entry { return l }, api.OK},
		"none":         {func(l []api.Entry) []api.Entry { return nil }, api.OK},
		"order":        {func(l []api.Entry) []api.Entry { l[0].Alias = "c"; return l }, api.ErrKeystore},
		"twice":        {func(l []api.Entry) []api.Entry { l[0].Alias = "b"; return l }, api.ErrKeystore},
		"alias":        {func(l []api.Entry) []api.Entry { l[0].Alias = ""; return l }, api.ErrKeystore},
		"long alias":   {func(l []api.Entry) []api.Entry { l[0].Alias = strings.Repeat("a", 33); return l }, api.ErrKeystore},
		"key":          {func(l []api.Entry) []api.Entry { l[1].Key.Bits = 1; return l }, api.ErrKeystore},
		"kind":         {func(l []api.Entry) []api.Entry { l[1].Key = api.Use{Alg: api.MD5}; return l }, api.ErrKeystore},
		"key id":       {func(l []api.Entry) []api.Entry { l[1].KeyId = api.MaxKey + 1; return l }, api.ErrKeystore},
		"great key id": {func(l []api.Entry) []api.Entry { l[1].KeyId = api.MaxKey; return l }, api.OK},
		"other key":    {func(l []api.Entry) []api.Entry { l[0].KeyId = 7; return l }, api.ErrKeystore},
		"other use":    {func(l []api.Entry) []api.Entry { l[0].Key.Bits = 1024; return l }, api.ErrKeystore},
		"certificate":  {func(l []api.Entry) []api.Entry { l[0].Chain[1].Issuer = ""; return l }, api.ErrKeystore},
		"eight":        {func(l []api.Entry) []api.Entry { l[0].Chain = chainOf(8); return l }, api.OK},
		"nine":         {func(l []api.Entry) []api.Entry { l[0].Chain = chainOf(9); return l }, api.ErrKeystore},
		"64":           {func(l []api.Entry) []api.Entry { return many(64) }, api.OK},
		"65":           {func(l []api.Entry) []api.Entry { return many(65) }, api.ErrKeystore},
	} {
		l := x.change(store())
		b, e := keystore.Encode(l)
		if keystore.Check(l) != x.e || e != x.e {
			t.Errorf("%s: %v, %v", name, keystore.Check(l), e)
		}
		if m, e := keystore.Decode(b); x.e == api.OK && (e != api.OK || !keystore.Same(l, m)) {
			t.Errorf("%s: %v, %v", name, m, e)
		}
	}
}

func chainOf(n int) []api.Certificate {
	var l []api.Certificate
	for range n {
		l = append(l, cert(1))
	}
	return l
}

func TestEncodeBytes(t *testing.T) {
	l := store()[1:]
	want, _ := der.Encode(der.List([]api.Value{der.List([]api.Value{der.Text("b"), der.List([]api.Value{der.Int(5), der.Int(2048)}), der.Int(2), der.Bool(true), der.List(nil)})}))
	if b, e := keystore.Encode(l); e != api.OK || string(b) != string(want) {
		t.Errorf("%x, %v", b, e)
	}
	l = many(60)
	for i := range l {
		l[i].Chain = []api.Certificate{cert(i)}
	}
	if b, e := keystore.Encode(l); e != api.ErrLimit || b != nil {
		t.Errorf("%d bytes, %v", len(b), e)
	}
}

func TestDecodeErrors(t *testing.T) {
	element := func(l ...api.Value) []byte {
		b, _ := der.Encode(der.List(l))
		return b
	}
	two := der.List([]api.Value{der.Int(5), der.Int(2048)})
	bad := der.List([]api.Value{der.Text("a"), two, der.Int(-1), der.Bool(true), der.List(nil)})
	badCert, _ := keystore.Encode(store()[:1])
	badCert[strings.Index(string(badCert), "root")] = ' ' // a certificate with a right form
	firstBad, _ := keystore.Encode([]api.Entry{entry1("a", 1, cert(1), cert(7)), entry1("b", 2)})
	firstBad[strings.Index(string(firstBad), "root")] = ' '
	wrongCert, _ := keystore.Encode(store()[:1])
	wrongCert[strings.Index(string(wrongCert), "root")] = 7
	for name, x := range map[string]struct {
		b []byte
		e api.Errno
	}{
		"long":              {make([]byte, 4097), api.ErrLimit},
		"no element":        {[]byte{48}, api.ErrForm},
		"no list":           {[]byte{2, 1, 1}, api.ErrForm},
		"no entry":          {element(der.Int(1)), api.ErrForm},
		"four fields":       {element(der.List([]api.Value{der.Text("a"), two, der.Int(1), der.Bool(true)})), api.ErrForm},
		"key":               {element(der.List([]api.Value{der.Text("a"), der.Int(5), der.Int(1), der.Bool(true), der.List(nil)})), api.ErrForm},
		"alias":             {element(der.List([]api.Value{der.Int(1), two, der.Int(1), der.Bool(true), der.List(nil)})), api.ErrForm},
		"chain":             {element(der.List([]api.Value{der.Text("a"), two, der.Int(1), der.Bool(true), der.List([]api.Value{two})})), api.ErrForm},
		"alg":               {element(der.List([]api.Value{der.Text("a"), der.List([]api.Value{der.Text("x"), der.Int(2048)}), der.Int(1), der.Bool(true), der.List(nil)})), api.ErrForm},
		"bits":              {element(der.List([]api.Value{der.Text("a"), der.List([]api.Value{der.Int(5), der.Text("x")}), der.Int(1), der.Bool(true), der.List(nil)})), api.ErrForm},
		"three of a key":    {element(der.List([]api.Value{der.Text("a"), der.List([]api.Value{der.Int(5), der.Int(2048), der.Int(1)}), der.Int(1), der.Bool(true), der.List(nil)})), api.ErrForm},
		"key id":            {element(der.List([]api.Value{der.Text("a"), two, der.Text("x"), der.Bool(true), der.List(nil)})), api.ErrForm},
		"secret":            {element(der.List([]api.Value{der.Text("a"), two, der.Int(1), der.Int(1), der.List(nil)})), api.ErrForm},
		"chain of no list":  {element(der.List([]api.Value{der.Text("a"), two, der.Int(1), der.Bool(true), der.Int(1)})), api.ErrForm},
		"not valid":         {element(bad), api.ErrKeystore},
		"form before valid": {element(bad, der.Int(1)), api.ErrForm},
		"bad certificate":   {badCert, api.ErrKeystore},
		"bad, then good":    {firstBad, api.ErrKeystore},
		"wrong certificate": {wrongCert, api.ErrForm},
	} {
		if l, e := keystore.Decode(x.b); e != x.e || l != nil {
			t.Errorf("%s: %v, %v", name, l, e)
		}
	}
}

func TestFind(t *testing.T) {
	l := []api.Entry{entry1("a", 1, cert(1)), entry1("a", 2)}
	x, ok := keystore.Find(l, "a")
	if !ok || x.KeyId != 1 {
		t.Error(x, ok)
	}
	x.Chain[0].Names[0] = "x"
	if l[0].Chain[0].Names[0] != "web" {
		t.Error("memory is shared")
	}
	if x, ok := keystore.Find(l, "b"); ok || !keystore.Same([]api.Entry{x}, []api.Entry{{}}) {
		t.Error(x, ok)
	}
}

func TestMerge(t *testing.T) {
	a, b := []api.Entry{entry1("a", 1), entry1("b", 2)}, []api.Entry{entry1("b", 3, cert(3)), entry1("c", 4)}
	want := []api.Entry{a[0], b[0], b[1]}
	l, e := keystore.Merge(a, b)
	if e != api.OK || !keystore.Same(l, want) {
		t.Errorf("%v, %v", l, e)
	}
	if m, e := keystore.Merge(l, l); e != api.OK || !keystore.Same(m, l) {
		t.Errorf("%v, %v", m, e)
	}
	l[1].Chain[0].Names[0] = "x"
	if b[0].Chain[0].Names[0] != "web" {
		t.Error("memory is shared")
	}
	c := []api.Entry{entry1("a", 9)}
	ab, _ := keystore.Merge(a, b)
	bc, _ := keystore.Merge(b, c)
	x, _ := keystore.Merge(ab, c)
	if y, _ := keystore.Merge(a, bc); !keystore.Same(x, y) {
		t.Errorf("%v, %v", x, y)
	}
	if l, e := keystore.Merge(many(64), []api.Entry{entry1("a", 1)}); e != api.ErrLimit || l != nil {
		t.Error(e)
	}
	if l, e := keystore.Merge(many(64), many(3)); e != api.OK || len(l) != 64 {
		t.Error(e)
	}
	for _, p := range [][2][]api.Entry{{many(65), nil}, {nil, many(65)}} {
		if l, e := keystore.Merge(p[0], p[1]); e != api.ErrKeystore || l != nil {
			t.Error(e)
		}
	}
}

func TestSame(t *testing.T) {
	for i, change := range []func(l []api.Entry){
		func(l []api.Entry) { l[0].Alias = "x" }, func(l []api.Entry) { l[0].Key.Bits++ }, func(l []api.Entry) { l[0].KeyId++ },
		func(l []api.Entry) { l[0].Secret = true }, func(l []api.Entry) { l[0].Chain[1].Serial++ }, func(l []api.Entry) { l[0].Chain = l[0].Chain[:1] },
	} {
		l := store()
		if change(l); keystore.Same(l, store()) {
			t.Errorf("%d", i)
		}
	}
	if !keystore.Same(store(), store()) || keystore.Same(store(), store()[:1]) {
		t.Error("same")
	}
}
