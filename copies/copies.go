// Package copies makes copies that share no memory.
package copies

import (
	"slices"

	"cipherplan/api"
)

// Each returns the copies of the elements of a list.
func Each[S ~[]T, T any](l S, one func(T) T) S {
	if l == nil {
		return nil
	}
	to := make(S, len(l))
	for i, x := range l {
		to[i] = one(x)
	}
	return to
}

// Certificate copies a certificate.
func Certificate(c api.Certificate) api.Certificate {
	c.Names = slices.Clone(c.Names)
	return c
}

// Chain copies certificates.
func Chain(l []api.Certificate) []api.Certificate { return Each(l, Certificate) }

// Entry copies an entry of a key store.
func Entry(e api.Entry) api.Entry {
	e.Chain = Chain(e.Chain)
	return e
}

// Identity copies an identity of an endpoint.
func Identity(i api.Identity) api.Identity {
	i.Chain = Chain(i.Chain)
	return i
}

// Endpoint copies an endpoint.
func Endpoint(e api.Endpoint) api.Endpoint {
	e.Suites = slices.Clone(e.Suites)
	e.Identities = Each(e.Identities, Identity)
	e.Anchors = slices.Clone(e.Anchors)
	e.Hashes = slices.Clone(e.Hashes)
	return e
}

// Exception copies an exception.
func Exception(x api.Exception) api.Exception {
	x.Seals = slices.Clone(x.Seals)
	return x
}

// Item copies an item.
func Item(i api.Item) api.Item {
	i.Links = slices.Clone(i.Links)
	return i
}

// Estate copies an estate.
func Estate(e api.Estate) api.Estate {
	e.Endpoints = Each(e.Endpoints, Endpoint)
	e.Edges = slices.Clone(e.Edges)
	e.Items = Each(e.Items, Item)
	return e
}

// Change copies a change.
func Change(c api.Change) api.Change {
	c.Identity = Identity(c.Identity)
	return c
}

// Plan copies a plan.
func Plan(p api.Plan) api.Plan {
	p.Changes = Each(p.Changes, Change)
	p.Required = slices.Clone(p.Required)
	p.Days = slices.Clone(p.Days)
	return p
}

// Host copies a host.
func Host(h api.Host) api.Host {
	h.Endpoint = Endpoint(h.Endpoint)
	h.Before = Each(h.Before, Endpoint)
	return h
}

// Run copies a run.
func Run(r api.Run) api.Run {
	r.Plan = Plan(r.Plan)
	r.Steps = slices.Clone(r.Steps)
	r.Tries = slices.Clone(r.Tries)
	return r
}

// World copies a world.
func World(w api.World) api.World {
	w.Estate = Estate(w.Estate)
	w.Hosts = Each(w.Hosts, Host)
	w.Policy.Rules = slices.Clone(w.Policy.Rules)
	w.Policy.Keeps = slices.Clone(w.Policy.Keeps)
	w.Exceptions = Each(w.Exceptions, Exception)
	w.Owners.Keys = slices.Clone(w.Owners.Keys)
	w.Findings = slices.Clone(w.Findings)
	w.Run = Run(w.Run)
	w.Ledger.Decisions = slices.Clone(w.Ledger.Decisions)
	return w
}
