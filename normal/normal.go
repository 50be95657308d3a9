// Package normal asks what several layers ask of lists of findings.
package normal

import (
	"slices"

	"cipherplan/api"
	"cipherplan/finding"
)

// List reports whether a list of findings is normal.
func List(l []api.Finding) bool {
	n, e := finding.Norm(l)
	return e == api.OK && slices.Equal(n, l)
}
