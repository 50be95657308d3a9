package host

import (
	"slices"
	"testing"

	"cipherplan/api"
	"cipherplan/endpoint"
	"cipherplan/finding"
)

func web(most int) api.Endpoint {
	return api.Endpoint{Name: "web", Least: 1, Most: most, Suites: []int{10, 2}}
}

func host(most int, before ...int) api.Host {
	h := api.Host{Endpoint: web(most)}
	for _, n := range before {
		h.Before = append(h.Before, web(n))
	}
	return h
}

func TestNew(t *testing.T) {
	if h, e := New(web(3)); !Same(h, host(3)) || e != api.OK {
		t.Error(h, e)
	}
	if h, e := New(web(5)); !Same(h, api.Host{}) || e != api.ErrEndpoint {
		t.Error(h, e)
	}
}

func TestTry(t *testing.T) {
	other := web(2)
	other.Name = "db"
	for name, x := range map[string]struct {
		to    api.Endpoint
		fault int
		want  api.Host
		says  bool
		e     api.Errno
	}{
		"none": {web(4), api.FaultNone, host(4, 2, 3), true, api.OK}, "fail": {web(4), api.FaultFail, host(3, 2), false, api.OK}, "silent": {web(4), api.FaultSilent, host(4, 2, 3), false, api.OK},
		"lost": {web(4), api.FaultLost, host(3, 2), true, api.OK}, "the same": {web(3), api.FaultNone, host(3, 2, 3), true, api.OK},
		"endpoint": {api.Endpoint{Name: "db"}, 9, host(3, 2), false, api.ErrEndpoint}, "name": {other, 9, host(3, 2), false, api.ErrName}, "fault": {web(4), 4, host(3, 2), false, api.ErrRange}, "negative": {web(4), -1, host(3, 2), false, api.ErrRange},
	} {
		h, says, e := Try(host(3, 2), x.to, x.fault)
		if !Same(h, x.want) || says != x.says || e != x.e {
			t.Errorf("%s: %v, %v, %v", name, h, says, e)
		}
	}
	full := host(3, slices.Repeat([]int{1}, 24)...)
	h, _, _ := Try(full, web(4), api.FaultNone)
	if len(h.Before) != 24 || h.Before[23].Most != 3 || h.Before[0].Most != 1 || len(full.Before) != 24 {
		t.Error(len(h.Before))
	}
}

func TestBack(t *testing.T) {
	if h, e := Back(host(3, 1, 2)); !Same(h, host(2, 1)) || e != api.OK {
		t.Error(h, e)
	}
	if h, e := Back(host(3)); !Same(h, host(3)) || e != api.ErrNone {
		t.Error(h, e)
	}
	before := host(3, 1)
	h, _, _ := Try(before, web(4), api.FaultNone)
	if h, e := Back(h); !Same(h, before) || e != api.OK {
		t.Error(h, e)
	}
}

func TestDrift(t *testing.T) {
	if h, e := Drift(host(3, 1), api.Change{Endpoint: 7, Kind: api.SetMost, Number: 4}); !Same(h, host(4, 1)) || e != api.OK {
		t.Error(h, e)
	}
	if h, e := Drift(host(3, 1), api.Change{Kind: api.SetMost, Number: 3}); !Same(h, host(3, 1)) || e != api.ErrDone {
		t.Error(h, e)
	}
	if h, e := Drift(host(3, 1), api.Change{}); !Same(h, host(3, 1)) || e != api.ErrChange {
		t.Error(h, e)
	}
}

func TestProbe(t *testing.T) {
	at := api.Finding{Source: 7, Host: "web", Day: 3, Confidence: 90, Subject: "tls"}
	l, e := Probe(host(3, 1), at)
	want, _ := finding.FromEndpoint(at, web(3))
	if !slices.Equal(l, want) || len(l) != 4 || e != api.OK {
		t.Error(l, e)
	}
	if l, e := Probe(host(3), api.Finding{}); l != nil || e != api.ErrFinding {
		t.Error(l, e)
	}
	if l, e := Probe(host(9), at); l != nil || e != api.ErrEndpoint {
		t.Error(l, e)
	}
}

func TestSameAndMemory(t *testing.T) {
	if !Same(host(3, 1), host(3, 1)) || Same(host(3, 1), host(3)) || Same(host(3, 1), host(3, 2)) || Same(host(3), host(2)) {
		t.Error("same")
	}
	h, to := host(3, 2), web(4)
	next, _, _ := Try(h, to, api.FaultNone)
	next.Endpoint.Suites[0], next.Before[0].Suites[0], next.Before[1].Suites[0] = 1, 1, 1
	if !Same(h, host(3, 2)) || !endpoint.Same(to, web(4)) {
		t.Error("memory is shared")
	}
}
