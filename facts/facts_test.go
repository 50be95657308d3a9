package facts

import (
	"math/rand"
	"slices"
	"testing"

	"cipherplan/api"
	"cipherplan/asset"
	"cipherplan/finding"
	"cipherplan/identity"
)

func TestOf(t *testing.T) {
	r := rand.New(rand.NewSource(30))
	for range 200 {
		var some []api.Finding
		for range 12 {
			some = append(some, api.Finding{Source: 7, Host: string(rune('a' + r.Intn(2))), Machine: r.Intn(3), Day: r.Intn(6), Confidence: 50, Kind: api.FindMost, Subject: "tls", Number: 1 + r.Intn(4)})
		}
		l, _ := finding.Norm(some)
		entities, _ := identity.Entities(l, 1)
		for _, e := range entities {
			a, f := Of(l, e, 4, 2)
			b, g := asset.Facts(l, e, 4, 2)
			if !slices.Equal(a, b) || f != g {
				t.Fatalf("%v: %v, %v", e, a, b)
			}
		}
	}
	if l, e := Of(nil, api.Entity{}, -1, 0); l != nil || e != api.ErrRange {
		t.Error(l, e)
	}
}
