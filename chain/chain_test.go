package chain_test

import (
	"testing"

	"cipherplan/api"
	"cipherplan/certificate"
	"cipherplan/chain"
)

// cert returns a certificate for a key, with the seal of another one; its subject is "k" and the key.
func cert(key, by int, change ...func(*api.Certificate)) api.Certificate {
	c := api.Certificate{Issuer: who(by), Subject: who(key), Key: api.Use{Alg: api.RSA, Bits: 2048}, KeyId: key, Hash: api.Use{Alg: api.SHA256}, From: 10, To: 20, Authority: true, Path: 8, Names: []string{"web"}}
	for _, f := range change {
		f(&c)
	}
	c, _ = certificate.Sign(c, by)
	return c
}

func who(key int) string { return "k" + string(rune('0'+key)) }

func three() []api.Certificate {
	return []api.Certificate{cert(1, 2), cert(2, 3), cert(3, 3)}
}

func TestCheckErrors(t *testing.T) {
	for name, x := range map[string]struct {
		change func(l []api.Certificate) []api.Certificate
		day    int
		name   string
		e      api.Errno
	}{
		"good":      {nil, 10, "web", api.OK},
		"last day":  {nil, 19, "web", api.OK},
		"none":      {func(l []api.Certificate) []api.Certificate { return nil }, 10, "web", api.ErrNone},
		"nine":      {func(l []api.Certificate) []api.Certificate { return make([]api.Certificate, 9) }, 10, "web", api.ErrLimit},
		"not valid": {func(l []api.Certificate) []api.Certificate { l[2].Issuer = ""; return l }, 30, "x", api.ErrCert},
		"name":      {nil, 30, "x", api.ErrName},
		"too early": {nil, 9, "web", api.ErrDays},
		"too late":  {func(l []api.Certificate) []api.Certificate { l[0].Hash.Alg = api.MD5; return l }, 20, "web", api.ErrDays},
		"hash":      {func(l []api.Certificate) []api.Certificate { l[1].Hash.Alg, l[0].Issuer = api.MD5, "x"; return l }, 10, "web", api.ErrUse},
		"issuer": {func(l []api.Certificate) []api.Certificate {
			l[1].Issuer, l[1].Authority, l[1].Path = "x", false, 0
			return l
		}, 10, "web", api.ErrIssuer},
		"no authority":        {func(l []api.Certificate) []api.Certificate { l[1].Authority, l[1].Path = false, 0; return l }, 10, "web", api.ErrPath},
		"path":                {func(l []api.Certificate) []api.Certificate { l[2] = cert(3, 3, path(0)); return l }, 10, "web", api.ErrPath},
		"short path":          {func(l []api.Certificate) []api.Certificate { l[2] = cert(3, 3, path(1)); return l }, 10, "web", api.OK},
		"leaf's path":         {func(l []api.Certificate) []api.Certificate { l[0] = cert(1, 2, leaf); return l }, 10, "web", api.OK},
		"seal":                {func(l []api.Certificate) []api.Certificate { l[0].Serial++; return l }, 10, "web", api.ErrSeal},
		"seal of another key": {func(l []api.Certificate) []api.Certificate { l[1], _ = certificate.Sign(l[1], 4); return l }, 10, "web", api.ErrSeal},
		"seal of the last":    {func(l []api.Certificate) []api.Certificate { l[2].Serial++; return l }, 10, "web", api.ErrSeal},
		"anchor":              {func(l []api.Certificate) []api.Certificate { l[2], _ = certificate.Sign(l[2], 4); return l }, 10, "web", api.ErrAnchor},
		"one":                 {func(l []api.Certificate) []api.Certificate { return []api.Certificate{cert(1, 3, leaf)} }, 10, "web", api.OK},
		"without an anchor":   {func(l []api.Certificate) []api.Certificate { return l[:2] }, 10, "web", api.OK},
		"a part":              {func(l []api.Certificate) []api.Certificate { return l[:1] }, 10, "web", api.ErrAnchor},
	} {
		l := three()
		if x.change != nil {
			l = x.change(l)
		}
		if e := chain.Check(l, []int{9, 3}, []int{api.SHA256}, x.day, x.name); e != x.e {
			t.Errorf("%s: %v, want %v", name, e, x.e)
		}
	}
	long := []api.Certificate{}
	for i := range 8 {
		long = append(long, cert(i, i+1))
	}
	if e := chain.Check(long, []int{8}, []int{api.SHA256}, 10, "web"); e != api.OK {
		t.Error(e)
	}
}

func path(n int) func(*api.Certificate) { return func(c *api.Certificate) { c.Path = n } }

func leaf(c *api.Certificate) { c.Authority, c.Path = false, 0 }

func TestPath(t *testing.T) {
	l := []api.Certificate{{}, {Authority: true}, {Authority: true}, {Authority: true, Path: 2}, {Path: 8}}
	for at, want := range map[int]bool{-1: false, 0: true, 1: true, 2: false, 3: true, 4: false, 5: false} {
		if chain.Path(l, at) != want {
			t.Errorf("%d: %v", at, !want)
		}
	}
}

func TestBuild(t *testing.T) {
	first := cert(1, 2, leaf)
	serial := func(n int) func(*api.Certificate) { return func(c *api.Certificate) { c.Serial = n } }
	late := func(c *api.Certificate) { c.From = 15 }
	for name, x := range map[string]struct {
		pool    []api.Certificate
		anchors []int
		want    []int // serials
		e       api.Errno
	}{
		"leaf alone":       {nil, []int{2}, []int{0}, api.OK},
		"two":              {[]api.Certificate{cert(5, 6, serial(5)), cert(2, 3, serial(6))}, []int{3}, []int{0, 6}, api.OK},
		"the shortest":     {[]api.Certificate{cert(2, 3, serial(5)), cert(3, 4, serial(6)), cert(2, 4, serial(7))}, []int{4}, []int{0, 7}, api.OK},
		"least indices":    {[]api.Certificate{cert(2, 3, serial(5)), cert(2, 3, serial(6))}, []int{3}, []int{0, 5}, api.OK},
		"not on that day":  {[]api.Certificate{cert(2, 3, serial(5), late), cert(2, 3, serial(6))}, []int{3}, []int{0, 6}, api.OK},
		"each once":        {[]api.Certificate{cert(2, 2, serial(5))}, []int{3}, nil, api.ErrNone},
		"no anchor":        {[]api.Certificate{cert(2, 3)}, []int{4}, nil, api.ErrNone},
		"path of the root": {[]api.Certificate{cert(2, 3), cert(3, 4, path(0))}, []int{4}, nil, api.ErrNone},
		"nine":             {make([]api.Certificate, 9), []int{2}, nil, api.ErrLimit},
		"not valid ones":   {make([]api.Certificate, 8), []int{2}, []int{0}, api.OK},
	} {
		l, e := chain.Build(first, x.pool, x.anchors, []int{api.SHA256}, 12, "web")
		if e != x.e || len(l) != len(x.want) {
			t.Errorf("%s: %v, %v", name, l, e)
			continue
		}
		for i, s := range x.want {
			if l[i].Serial != s {
				t.Errorf("%s: %v", name, l)
			}
		}
		if e == api.OK && chain.Check(l, x.anchors, []int{api.SHA256}, 12, "web") != api.OK {
			t.Errorf("%s: not accepted", name)
		}
	}
	if _, e := chain.Build(first, nil, []int{2}, []int{api.SHA256}, 12, "other"); e != api.ErrNone {
		t.Error(e)
	}
	if _, e := chain.Build(api.Certificate{}, nil, []int{2}, []int{api.SHA256}, 12, "web"); e != api.ErrNone {
		t.Error(e)
	}
}

// All certificates of the pool can follow one another: the search ends nevertheless.
func TestBuildMany(t *testing.T) {
	var pool []api.Certificate
	for range 8 {
		pool = append(pool, cert(2, 2))
	}
	if _, e := chain.Build(cert(1, 2), pool, []int{3}, []int{api.SHA256}, 12, "web"); e != api.ErrNone {
		t.Error(e)
	}
}

func TestUntil(t *testing.T) {
	if chain.Until(nil) != 0 || chain.Until([]api.Certificate{{To: 9}, {To: 7}, {To: 8}}) != 7 {
		t.Error("until")
	}
}

func TestBuildLimits(t *testing.T) {
	var pool []api.Certificate
	for i := range 7 {
		pool = append(pool, cert(2+i, 3+i))
	}
	for day, want := range map[int]api.Errno{9: api.ErrNone, 10: api.OK, 19: api.OK, 20: api.ErrNone} {
		if l, e := chain.Build(cert(1, 2), pool, []int{9}, []int{api.SHA256}, day, "web"); e != want || e == api.OK && len(l) != 8 {
			t.Errorf("%d: %d, %v", day, len(l), e)
		}
	}
	if _, e := chain.Build(cert(1, 2), append(pool[:6:6], cert(8, 9), cert(9, 10)), []int{10}, []int{api.SHA256}, 12, "web"); e != api.ErrNone {
		t.Error(e) // nine certificates would be needed
	}
	if chain.Until([]api.Certificate{{To: 5}}) != 5 {
		t.Error("until")
	}
}
