package catalog_test

import (
	"fmt"
	"strings"
	"testing"

	"cipherplan/api"
	"cipherplan/catalog"
)

// The table of the chapter: name, kind, and sizes with their strengths; "R" for 512 to MaxBits.
const table = `md5 1 0=18
sha1 1 0=60
sha256 1 0=128
sha384 1 0=192
rsa 2 R
dsa 2 R
ecdsa 2 160=80 224=112 256=128 384=192 521=260
ed25519 2 0=128
mldsa 2 44=128 65=192 87=256
rsakx 3 R
dhe 3 R
ecdhe 3 160=80 224=112 256=128 384=192 521=260
mlkem 3 512=128 768=192 1024=256
rc4 4 40=40 128=60
des3 4 112=80 168=112
aescbc 4 128=128 256=256
aesgcm 4 128=128 256=256
chacha 4 0=256
hmacmd5 5 0=64
hmacsha1 5 0=80
hmacsha256 5 0=128
aead 5 0=256`

func want(sizes []string, bits int) int {
	if sizes[0] == "R" {
		for _, x := range [][3]int{{512, 1023, 56}, {1024, 2047, 80}, {2048, 3071, 112}, {3072, 7679, 128}, {7680, 15359, 192}, {15360, 16384, 256}} {
			if bits >= x[0] && bits <= x[1] {
				return x[2]
			}
		}
		return 0
	}
	for _, s := range sizes {
		var b, n int
		fmt.Sscanf(s, "%d=%d", &b, &n)
		if b == bits {
			return n
		}
	}
	return 0
}

func TestAlgorithms(t *testing.T) {
	for i, line := range strings.Split(table, "\n") {
		alg, f := i+1, strings.Fields(line)
		if catalog.Name(alg) != f[0] || catalog.Find(f[0]) != alg || fmt.Sprint(catalog.Kind(alg)) != f[1] {
			t.Errorf("%s: %q, %d, %d", f[0], catalog.Name(alg), catalog.Find(f[0]), catalog.Kind(alg))
		}
		for bits := -1; bits < 16500; bits++ {
			u := api.Use{Alg: alg, Bits: bits}
			n := want(f[2:], bits)
			if catalog.Strength(u) != n || catalog.Valid(u) != (n > 0) {
				t.Fatalf("%v: %d, %v, want %d", u, catalog.Strength(u), catalog.Valid(u), n)
			}
			v, e := catalog.Parse(catalog.Text(u))
			if n > 0 && (e != api.OK || v != u) || n == 0 && (catalog.Text(u) != "" || e != api.ErrUse) {
				t.Fatalf("%v: %q, %v, %v", u, catalog.Text(u), v, e)
			}
		}
	}
	for _, alg := range []int{-1, 0, 23, 1 << 62} {
		if catalog.Name(alg) != "" || catalog.Kind(alg) != 0 || catalog.Valid(api.Use{Alg: alg}) || catalog.Strength(api.Use{Alg: alg, Bits: 512}) != 0 {
			t.Errorf("%d", alg)
		}
	}
	if catalog.Find("") != 0 || catalog.Find("MD5") != 0 || catalog.Find("rsa-2048") != 0 {
		t.Error("find")
	}
}

func TestText(t *testing.T) {
	if s := catalog.Text(api.Use{Alg: api.RSA, Bits: 2048}); s != "rsa-2048" {
		t.Error(s)
	}
	if s := catalog.Text(api.Use{Alg: api.MD5}); s != "md5" {
		t.Error(s)
	}
	for _, s := range []string{"", "-", "rsa", "rsa-", "rsa-02048", "rsa-+2048", "rsa-2048-", "rsa-511", "rsa-99999999999999999999", "md5-0", "md5-", "md5-1", " md5", "none"} {
		if u, e := catalog.Parse(s); e != api.ErrUse || u != (api.Use{}) {
			t.Errorf("%q: %v, %v", s, u, e)
		}
	}
}

// The table of the chapter.
const rows = `1 rsa-rc4-md5 rsakx rsa rc4-128 hmacmd5 1 2
2 rsa-rc4-sha rsakx rsa rc4-128 hmacsha1 1 3
3 rsa-des3-sha rsakx rsa des3-168 hmacsha1 1 3
4 dhe-dsa-des3-sha dhe-1024 dsa des3-168 hmacsha1 1 3
5 dhe-rsa-des3-sha dhe-1024 rsa des3-168 hmacsha1 1 3
6 rsa-aes128-sha rsakx rsa aescbc-128 hmacsha1 1 3
7 dhe-rsa-aes128-sha dhe-2048 rsa aescbc-128 hmacsha1 1 3
8 ecdhe-rsa-aes128-sha ecdhe-256 rsa aescbc-128 hmacsha1 1 3
9 ecdhe-ecdsa-aes256-sha256 ecdhe-256 ecdsa aescbc-256 hmacsha256 3 3
10 ecdhe-rsa-aes128-gcm ecdhe-256 rsa aesgcm-128 aead 3 3
11 ecdhe-ecdsa-aes256-gcm ecdhe-384 ecdsa aesgcm-256 aead 3 3
12 ecdhe-rsa-chacha ecdhe-256 rsa chacha aead 3 3
13 rsa-aes256-gcm rsakx rsa aesgcm-256 aead 3 3
14 aes128-gcm ecdhe-256 - aesgcm-128 aead 4 4
15 chacha ecdhe-256 - chacha aead 4 4
16 mlkem-aes256-gcm mlkem-768 - aesgcm-256 aead 4 4`

func text(u api.Use) string {
	if u == (api.Use{}) {
		return "-"
	}
	if u.Bits == 0 {
		return catalog.Name(u.Alg)
	}
	return catalog.Text(u)
}

func TestSuites(t *testing.T) {
	l := catalog.Suites()
	for i, line := range strings.Split(rows, "\n") {
		s := l[i]
		if got := fmt.Sprint(s.Code, " ", s.Name, " ", text(s.Exchange), " ", text(s.Sign), " ", text(s.Cipher), " ", text(s.Mac), " ", s.Least, " ", s.Most); got != line {
			t.Errorf("%s, want %s", got, line)
		}
		if x, e := catalog.Suite(i + 1); e != api.OK || x != s || catalog.Code(s.Name) != i+1 {
			t.Errorf("%v, %v, %d", x, e, catalog.Code(s.Name))
		}
	}
	if len(l) != 16 || catalog.Code("") != 0 || catalog.Code("md5") != 0 {
		t.Error(len(l))
	}
	for _, c := range []int{-1, 0, 17} {
		if s, e := catalog.Suite(c); e != api.ErrSuite || s != (api.Suite{}) {
			t.Errorf("%d: %v, %v", c, s, e)
		}
	}
	l[0].Name = "another"
	if catalog.Suites()[0].Name != "rsa-rc4-md5" {
		t.Error("the table can be changed")
	}
}
