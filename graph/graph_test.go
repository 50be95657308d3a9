package graph

import (
	"testing"

	"cipherplan/api"
)

func TestCheck(t *testing.T) {
	for name, x := range map[string]struct {
		n int
		l []api.Required
		e api.Errno
	}{
		"none": {0, nil, api.OK}, "24": {24, []api.Required{{First: 0, Then: 23}}, api.OK}, "25": {25, []api.Required{{First: 30}}, api.ErrRange}, "-1": {-1, nil, api.ErrRange},
		"far": {2, []api.Required{{First: 1, Then: 0}, {First: 0, Then: 2}}, api.ErrNeed}, "negative": {2, []api.Required{{First: -1, Then: 0}}, api.ErrNeed}, "same": {2, []api.Required{{First: 1, Then: 1}}, api.ErrNeed},
		"order": {3, []api.Required{{First: 1, Then: 0}, {First: 0, Then: 1}}, api.ErrOrder}, "twice": {3, []api.Required{{First: 0, Then: 1}, {First: 0, Then: 1}}, api.ErrOrder},
		"loop": {3, []api.Required{{First: 0, Then: 1}, {First: 1, Then: 2}, {First: 2, Then: 0}}, api.ErrLoop},
	} {
		if e := Check(x.n, x.l); e != x.e {
			t.Errorf("%s: %v", name, e)
		}
	}
}

func TestReach(t *testing.T) {
	after := Reach([]api.Required{{First: 0, Then: 3}, {First: 1, Then: 2}, {First: 3, Then: 1}})
	if after[0] != 0b1110 || after[3] != 0b0110 || after[1] != 0b0100 || after[2] != 0 {
		t.Error(after)
	}
}
