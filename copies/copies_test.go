package copies

import (
	"testing"

	"cipherplan/api"
)

func TestChain(t *testing.T) {
	l := []api.Certificate{{Names: []string{"a"}}}
	m := Chain(l)
	m[0].Names[0], m[0].Serial = "b", 1
	if l[0].Names[0] != "a" || l[0].Serial != 0 || Chain(nil) != nil {
		t.Error("memory is shared")
	}
}
