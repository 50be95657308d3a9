// Package facts finds the facts of entities in long lists of findings.
package facts

import (
	"cipherplan/api"
	"cipherplan/asset"
)

// Of returns what asset.Facts returns for an entity of a normal list. Only the entity's own findings are handed on, as the whole list would be checked for each entity.
func Of(l []api.Finding, e api.Entity, day, age int) ([]api.Fact, api.Errno) {
	own := api.Entity{Number: e.Number}
	var findings []api.Finding
	for i, finding := range e.Findings {
		own.Findings = append(own.Findings, i)
		findings = append(findings, l[finding])
	}
	to, err := asset.Facts(findings, own, day, age)
	for i := range to {
		to[i].Finding = e.Findings[to[i].Finding]
	}
	return to, err
}
