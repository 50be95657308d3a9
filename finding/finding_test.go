package finding_test

import (
	"fmt"
	"math/rand"
	"slices"
	"strings"
	"testing"

	"cipherplan/api"
	"cipherplan/finding"
)

var (
	md5 = api.Use{Alg: api.MD5}
	rsa = api.Use{Alg: api.RSA, Bits: 2048}
)

func at() api.Finding {
	return api.Finding{Source: api.SourceHuman, Host: "web", Machine: 7, Day: 3, Confidence: 90, Subject: "tls"}
}

func of(kind int, u api.Use, number int, text string) api.Finding {
	f := at()
	f.Kind, f.Use, f.Number, f.Text = kind, u, number, text
	return f
}

func TestCheck(t *testing.T) {
	good := of(api.FindUse, md5, 0, "")
	for name, change := range map[string]func(f *api.Finding){
		"source": func(f *api.Finding) { f.Source = 0 }, "source 8": func(f *api.Finding) { f.Source = 8 },
		"host": func(f *api.Finding) { f.Host = "" }, "machine": func(f *api.Finding) { f.Machine = -1 },
		"great machine": func(f *api.Finding) { f.Machine = api.MaxNumber + 1 }, "day": func(f *api.Finding) { f.Day = -1 },
		"late day": func(f *api.Finding) { f.Day = api.MaxDay + 1 }, "confidence": func(f *api.Finding) { f.Confidence = 0 },
		"great confidence": func(f *api.Finding) { f.Confidence = 101 }, "subject": func(f *api.Finding) { f.Subject = strings.Repeat("a", 33) },
		"kind 0": func(f *api.Finding) { f.Kind = 0 }, "kind 9": func(f *api.Finding) { f.Kind = 9 },
	} {
		f := good
		if change(&f); finding.Check(f) != api.ErrFinding {
			t.Errorf("%s: %v", name, finding.Check(f))
		}
	}
	good.Machine, good.Day, good.Confidence = api.MaxNumber, api.MaxDay, 100
	if finding.Check(good) != api.OK {
		t.Error("the greatest numbers")
	}
	for _, f := range []api.Finding{of(api.FindUse, md5, 0, ""), of(api.FindOff, rsa, 0, ""), of(api.FindSuite, api.Use{}, 65535, ""), of(api.FindSuite, api.Use{}, 0, ""), of(api.FindKey, rsa, api.MaxKey, ""), of(api.FindMost, api.Use{}, 4, ""), of(api.FindLeast, api.Use{}, 1, ""), of(api.FindTrust, api.Use{}, 0, ""), of(api.FindPeer, api.Use{}, 0, "db")} {
		if finding.Check(f) != api.OK {
			t.Errorf("%v", f)
		}
	}
	none := api.Use{}
	for _, f := range []api.Finding{
		of(api.FindUse, none, 0, ""), of(api.FindUse, md5, 1, ""), of(api.FindUse, md5, 0, "x"), of(api.FindOff, api.Use{Alg: 1, Bits: 1}, 0, ""), of(api.FindOff, md5, 1, ""), of(api.FindOff, md5, 0, "x"),
		of(api.FindSuite, md5, 1, ""), of(api.FindSuite, none, 65536, ""), of(api.FindSuite, none, -1, ""), of(api.FindSuite, none, 1, "x"),
		of(api.FindKey, md5, 1, ""), of(api.FindKey, none, 1, ""), of(api.FindKey, rsa, -1, ""), of(api.FindKey, rsa, api.MaxKey+1, ""), of(api.FindKey, rsa, 1, "x"),
		of(api.FindMost, none, 0, ""), of(api.FindMost, none, 5, ""), of(api.FindMost, md5, 1, ""), of(api.FindMost, none, 1, "x"), of(api.FindLeast, none, 0, ""), of(api.FindLeast, none, 5, ""),
		of(api.FindTrust, none, -1, ""), of(api.FindTrust, none, api.MaxKey+1, ""), of(api.FindTrust, md5, 1, ""), of(api.FindTrust, none, 1, "x"),
		of(api.FindPeer, none, 0, ""), of(api.FindPeer, none, 1, "db"), of(api.FindPeer, md5, 0, "db"), of(api.FindPeer, none, 0, "a b"),
	} {
		if finding.Check(f) != api.ErrFinding {
			t.Errorf("%v", f)
		}
	}
}

// Each field counts before all that come behind it.
func TestOrder(t *testing.T) {
	steps := []func(f *api.Finding, n int){
		func(f *api.Finding, n int) { f.Host = fmt.Sprint(n) }, func(f *api.Finding, n int) { f.Machine = n }, func(f *api.Finding, n int) { f.Day = n },
		func(f *api.Finding, n int) { f.Subject = fmt.Sprint(n) }, func(f *api.Finding, n int) { f.Kind = n }, func(f *api.Finding, n int) { f.Use.Alg = n },
		func(f *api.Finding, n int) { f.Use.Bits = n }, func(f *api.Finding, n int) { f.Number = n }, func(f *api.Finding, n int) { f.Text = fmt.Sprint(n) },
		func(f *api.Finding, n int) { f.Source = n }, func(f *api.Finding, n int) { f.Confidence = n },
	}
	for i := range steps {
		var a, b api.Finding
		for j, set := range steps {
			set(&a, 5)
			set(&b, 5)
			if j == i {
				set(&b, 6)
			} else if j > i {
				set(&b, 4)
			}
		}
		if finding.Order(a, b) != -1 || finding.Order(b, a) != 1 || finding.Order(a, a) != 0 {
			t.Errorf("field %d: %d", i, finding.Order(a, b))
		}
	}
}

func random(r *rand.Rand) []api.Finding {
	var l []api.Finding
	for range r.Intn(8) {
		f := of(api.FindSuite, api.Use{}, r.Intn(3), "")
		f.Day = r.Intn(2)
		l = append(l, f)
	}
	return l
}

func TestNormAndMerge(t *testing.T) {
	r := rand.New(rand.NewSource(7))
	for range 500 {
		a, b, c := random(r), random(r), random(r)
		n, e := finding.Norm(a)
		if e != api.OK || !slices.IsSortedFunc(n, finding.Order) || len(slices.Compact(slices.Clone(n))) != len(n) {
			t.Fatalf("%v: %v, %v", a, n, e)
		}
		ab, _ := finding.Merge(a, b)
		ba, _ := finding.Merge(b, a)
		abc, _ := finding.Merge(ab, c)
		bc, _ := finding.Merge(b, c)
		again, _ := finding.Merge(a, bc)
		twice, _ := finding.Merge(ab, ab)
		if !slices.Equal(ab, ba) || !slices.Equal(abc, again) || !slices.Equal(ab, twice) {
			t.Fatalf("%v, %v, %v", a, b, c)
		}
		for _, f := range a {
			if !slices.Contains(ab, f) {
				t.Fatalf("%v is lost", f)
			}
		}
	}
	var many []api.Finding
	for i := range 401 {
		many = append(many, of(api.FindTrust, api.Use{}, 401-i, ""))
	}
	if l, e := finding.Norm(many); l != nil || e != api.ErrLimit {
		t.Error(len(l), e)
	}
	if l, e := finding.Norm(append(many, api.Finding{})); l != nil || e != api.ErrFinding {
		t.Error(len(l), e)
	}
	if l, e := finding.Merge(many[:400], many[:100]); len(l) != 400 || e != api.OK {
		t.Error(len(l), e)
	}
	if l, e := finding.Merge(many[:400], many[400:]); l != nil || e != api.ErrLimit {
		t.Error(len(l), e)
	}
}

func points(l []api.Finding) string {
	s := ""
	for _, f := range l {
		g := at()
		g.Kind, g.Use, g.Number = f.Kind, f.Use, f.Number
		if f != g {
			s += "other "
		}
		s += fmt.Sprint(f.Kind, f.Use, f.Number, " ")
	}
	return s
}

func TestFromEndpoint(t *testing.T) {
	e := api.Endpoint{Name: "web", Least: 1, Most: 3, Suites: []int{10, 2}, Identities: []api.Identity{{Key: rsa, KeyId: 5}, {Key: rsa, KeyId: 5}}, Anchors: []int{4, 9}, Hashes: []int{1, 3}}
	odd := at()
	odd.Kind, odd.Text, odd.Number = 77, "is not looked at", -3
	l, err := finding.FromEndpoint(odd, e)
	if s := points(l); s != "1 {1 0} 0 1 {3 0} 0 2 {0 0} 2 2 {0 0} 10 3 {5 2048} 5 4 {0 0} 3 5 {0 0} 1 6 {0 0} 4 6 {0 0} 9 " || err != api.OK {
		t.Error(s, err)
	}
	if l, err := finding.FromEndpoint(at(), api.Endpoint{}); l != nil || err != api.ErrEndpoint {
		t.Error(l, err)
	}
	odd.Host = ""
	if l, err := finding.FromEndpoint(odd, api.Endpoint{}); l != nil || err != api.ErrFinding {
		t.Error(l, err)
	}
}

func TestFromStoreAndUses(t *testing.T) {
	l, err := finding.FromStore(at(), []api.Entry{{Alias: "a", Key: rsa, KeyId: 5}, {Alias: "b", Key: rsa, KeyId: 5}, {Alias: "c", Key: rsa, KeyId: 4}})
	if s := points(l); s != "3 {5 2048} 4 3 {5 2048} 5 " || err != api.OK {
		t.Error(s, err)
	}
	if l, err := finding.FromStore(at(), []api.Entry{{}}); l != nil || err != api.ErrKeystore {
		t.Error(l, err)
	}
	if l, err := finding.FromStore(api.Finding{}, []api.Entry{{}}); l != nil || err != api.ErrFinding {
		t.Error(l, err)
	}
	l, err = finding.FromUses(at(), []api.Use{rsa, md5, rsa})
	if s := points(l); s != "1 {1 0} 0 1 {5 2048} 0 " || err != api.OK {
		t.Error(s, err)
	}
	if l, err := finding.FromUses(at(), []api.Use{md5, {}}); l != nil || err != api.ErrUse {
		t.Error(l, err)
	}
	if l, err := finding.FromUses(api.Finding{}, []api.Use{{}}); l != nil || err != api.ErrFinding {
		t.Error(l, err)
	}
	var many []api.Use
	for i := range 401 {
		many = append(many, api.Use{Alg: api.RSA, Bits: 512 + i})
	}
	if l, err := finding.FromUses(at(), many); l != nil || err != api.ErrLimit {
		t.Error(len(l), err)
	}
}

func TestFromCapture(t *testing.T) {
	h := api.Hello{Most: 4, Suites: []int{10}}
	l, err := finding.FromCapture(at(), h, api.Choice{Version: 3, Suite: 10, KeyId: 5})
	if s := points(l); s != "1 {17 128} 0 1 {22 0} 0 2 {0 0} 10 4 {0 0} 3 " || err != api.OK {
		t.Error(s, err)
	}
	l, err = finding.FromCapture(at(), h, api.Choice{Version: 3, Suite: 999})
	if s := points(l); s != "2 {0 0} 999 4 {0 0} 3 " || err != api.OK {
		t.Error(s, err)
	}
	if l, err := finding.FromCapture(at(), api.Hello{}, api.Choice{Version: 3}); l != nil || err != api.ErrMessage {
		t.Error(l, err)
	}
	if l, err := finding.FromCapture(at(), h, api.Choice{}); l != nil || err != api.ErrMessage {
		t.Error(l, err)
	}
	if l, err := finding.FromCapture(api.Finding{}, h, api.Choice{}); l != nil || err != api.ErrFinding {
		t.Error(l, err)
	}
}

func TestLeastNumbers(t *testing.T) {
	f := api.Finding{Source: 1, Host: "a", Confidence: 1, Kind: api.FindKey, Subject: "b", Use: rsa}
	if finding.Check(f) != api.OK {
		t.Error(finding.Check(f))
	}
}
