package host_test

import (
	"slices"
	"testing"

	"cipherplan/api"
	"cipherplan/endpoint"
	"cipherplan/finding"
	"cipherplan/host"
)

func web(most int) api.Endpoint {
	return api.Endpoint{Name: "web", Least: 1, Most: most, Suites: []int{10, 2}}
}

func on(most int, before ...int) api.Host {
	h := api.Host{Endpoint: web(most)}
	for _, n := range before {
		h.Before = append(h.Before, web(n))
	}
	return h
}

func TestNew(t *testing.T) {
	if h, e := host.New(web(3)); !host.Same(h, on(3)) || e != api.OK {
		t.Error(h, e)
	}
	if h, e := host.New(web(5)); !host.Same(h, api.Host{}) || e != api.ErrEndpoint {
		t.Error(h, e)
	}
}

func TestTry(t *testing.T) {
	other := web(2)
	other.Name = "db"
	for name, x := range map[string]struct {
		to    api.Endpoint
		fault int
		want  api.Host
		says  bool
		e     api.Errno
	}{
		"none": {web(4), api.FaultNone, on(4, 2, 3), true, api.OK}, "fail": {web(4), api.FaultFail, on(3, 2), false, api.OK}, "silent": {web(4), api.FaultSilent, on(4, 2, 3), false, api.OK},
		"lost": {web(4), api.FaultLost, on(3, 2), true, api.OK}, "the same": {web(3), api.FaultNone, on(3, 2, 3), true, api.OK},
		"endpoint": {api.Endpoint{Name: "db"}, 9, on(3, 2), false, api.ErrEndpoint}, "name": {other, 9, on(3, 2), false, api.ErrName}, "fault": {web(4), 4, on(3, 2), false, api.ErrRange}, "negative": {web(4), -1, on(3, 2), false, api.ErrRange},
	} {
		h, says, e := host.Try(on(3, 2), x.to, x.fault)
		if !host.Same(h, x.want) || says != x.says || e != x.e {
			t.Errorf("%s: %v, %v, %v", name, h, says, e)
		}
	}
	full := on(3, slices.Repeat([]int{1}, 24)...)
	h, _, _ := host.Try(full, web(4), api.FaultNone)
	if len(h.Before) != 24 || h.Before[23].Most != 3 || h.Before[0].Most != 1 || len(full.Before) != 24 {
		t.Error(len(h.Before))
	}
}

func TestBack(t *testing.T) {
	if h, e := host.Back(on(3, 1, 2)); !host.Same(h, on(2, 1)) || e != api.OK {
		t.Error(h, e)
	}
	if h, e := host.Back(on(3)); !host.Same(h, on(3)) || e != api.ErrNone {
		t.Error(h, e)
	}
	before := on(3, 1)
	h, _, _ := host.Try(before, web(4), api.FaultNone)
	if h, e := host.Back(h); !host.Same(h, before) || e != api.OK {
		t.Error(h, e)
	}
}

func TestDrift(t *testing.T) {
	if h, e := host.Drift(on(3, 1), api.Change{Endpoint: 7, Kind: api.SetMost, Number: 4}); !host.Same(h, on(4, 1)) || e != api.OK {
		t.Error(h, e)
	}
	if h, e := host.Drift(on(3, 1), api.Change{Kind: api.SetMost, Number: 3}); !host.Same(h, on(3, 1)) || e != api.ErrDone {
		t.Error(h, e)
	}
	if h, e := host.Drift(on(3, 1), api.Change{}); !host.Same(h, on(3, 1)) || e != api.ErrChange {
		t.Error(h, e)
	}
}

func TestProbe(t *testing.T) {
	at := api.Finding{Source: 7, Host: "web", Day: 3, Confidence: 90, Subject: "tls"}
	l, e := host.Probe(on(3, 1), at)
	want, _ := finding.FromEndpoint(at, web(3))
	if !slices.Equal(l, want) || len(l) != 4 || e != api.OK {
		t.Error(l, e)
	}
	if l, e := host.Probe(on(3), api.Finding{}); l != nil || e != api.ErrFinding {
		t.Error(l, e)
	}
}

func TestSameAndMemory(t *testing.T) {
	if !host.Same(on(3, 1), on(3, 1)) || host.Same(on(3, 1), on(3)) || host.Same(on(3, 1), on(3, 2)) || host.Same(on(3), on(2)) {
		t.Error("same")
	}
	h, to := on(3, 2), web(4)
	next, _, _ := host.Try(h, to, api.FaultNone)
	next.Endpoint.Suites[0], next.Before[0].Suites[0], next.Before[1].Suites[0] = 1, 1, 1
	if !host.Same(h, on(3, 2)) || !endpoint.Same(to, web(4)) {
		t.Error("memory is shared")
	}
}

func TestBackToTheFirst(t *testing.T) {
	if h, e := host.Back(on(3, 1)); !host.Same(h, on(1)) || e != api.OK {
		t.Error(h, e)
	}
}
