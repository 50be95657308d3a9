// Package graph contains what layers ask of requirements between changes.
package graph

import (
	"cmp"

	"cipherplan/api"
	"cipherplan/basic"
)

// Compare compares requirements by First, then by Then.
func Compare(a, b api.Required) int {
	return cmp.Or(cmp.Compare(a.First, b.First), cmp.Compare(a.Then, b.Then))
}

// Check returns the error of requirements between n changes.
func Check(n int, l []api.Required) api.Errno {
	if !basic.In(n, 0, api.MaxChanges) {
		return api.ErrRange
	}
	for _, r := range l {
		if !basic.In(r.First, 0, n-1) || !basic.In(r.Then, 0, n-1) || r.First == r.Then {
			return api.ErrNeed
		}
	}
	for i := 1; i < len(l); i++ {
		if Compare(l[i-1], l[i]) >= 0 {
			return api.ErrOrder
		}
	}
	for i, after := range Reach(l) {
		if after>>i&1 == 1 {
			return api.ErrLoop
		}
	}
	return api.OK
}

// Reach returns, as bits, what each change is required for, also by others. The requirements are between indices below MaxChanges.
func Reach(l []api.Required) [api.MaxChanges]uint32 {
	var after [api.MaxChanges]uint32
	for _, r := range l {
		after[r.First] |= 1 << r.Then
	}
	for by := range after {
		for i := range after {
			if after[i]>>by&1 == 1 {
				after[i] |= after[by]
			}
		}
	}
	return after
}
