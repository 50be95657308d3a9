package normal

import (
	"testing"

	"cipherplan/api"
)

func TestList(t *testing.T) {
	a := api.Finding{Source: 7, Host: "a", Confidence: 50, Kind: api.FindTrust, Subject: "tls"}
	b := a
	b.Host = "b"
	for name, x := range map[string]struct {
		l    []api.Finding
		want bool
	}{"none": {nil, true}, "two": {[]api.Finding{a, b}, true}, "turned": {[]api.Finding{b, a}, false}, "twice": {[]api.Finding{a, a}, false}, "invalid": {[]api.Finding{{}}, false}} {
		if List(x.l) != x.want {
			t.Errorf("%s: %v", name, !x.want)
		}
	}
}
