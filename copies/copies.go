// Package copies makes copies of values that share no memory with them.
package copies

import (
	"bytes"
	"slices"

	"exchangepoint/api"
)

// Each copies a list element by element.
func Each[T any](l []T, one func(T) T) []T {
	if len(l) == 0 {
		return nil
	}
	out := make([]T, len(l))
	for i, x := range l {
		out[i] = one(x)
	}
	return out
}

// Frame copies a frame.
func Frame(f api.Frame) api.Frame {
	f.Data = bytes.Clone(f.Data)
	return f
}

// Port copies a port.
func Port(p api.Port) api.Port {
	p.MACs = slices.Clone(p.MACs)
	return p
}

// Member copies a member.
func Member(m api.Member) api.Member {
	m.Ports = Each(m.Ports, Port)
	return m
}

// Database copies a database.
func Database(d api.Database) api.Database {
	d.Servers = Each(d.Servers, Member)
	d.Members = Each(d.Members, Member)
	return d
}

// Rule copies the configuration of a port.
func Rule(r api.Rule) api.Rule {
	r.MACs = slices.Clone(r.MACs)
	r.V4 = slices.Clone(r.V4)
	r.V6 = slices.Clone(r.V6)
	return r
}

// Fabric copies a fabric.
func Fabric(f api.Fabric) api.Fabric {
	f.Links = slices.Clone(f.Links)
	f.Down = slices.Clone(f.Down)
	f.Dead = slices.Clone(f.Dead)
	return f
}

// Segment copies a segment of a path.
func Segment(s api.Segment) api.Segment {
	s.ASNs = slices.Clone(s.ASNs)
	return s
}

// Unknown copies an attribute that is not known.
func Unknown(u api.Unknown) api.Unknown {
	u.Data = bytes.Clone(u.Data)
	return u
}

// Attrs copies attributes.
func Attrs(a api.Attrs) api.Attrs {
	a.Path = Each(a.Path, Segment)
	a.Communities = slices.Clone(a.Communities)
	a.Large = slices.Clone(a.Large)
	a.Other = Each(a.Other, Unknown)
	return a
}

// Update copies an update.
func Update(u api.Update) api.Update {
	u.Withdraw = slices.Clone(u.Withdraw)
	u.Attrs = Attrs(u.Attrs)
	u.Announce = slices.Clone(u.Announce)
	return u
}

// Route copies a route.
func Route(r api.Route) api.Route {
	r.Attrs = Attrs(r.Attrs)
	return r
}

// Routes copies a list of routes.
func Routes(l []api.Route) []api.Route {
	return Each(l, Route)
}

// Peer copies a peer.
func Peer(p api.Peer) api.Peer {
	p.Nexts = slices.Clone(p.Nexts)
	return p
}

func set(s api.Set) api.Set {
	s.ASNs = slices.Clone(s.ASNs)
	s.Sets = slices.Clone(s.Sets)
	return s
}

// Filter copies a filter.
func Filter(f api.Filter) api.Filter {
	f.LANs = slices.Clone(f.LANs)
	f.Bogons = slices.Clone(f.Bogons)
	f.Private = slices.Clone(f.Private)
	f.Free = slices.Clone(f.Free)
	f.Registry.Sets = Each(f.Registry.Sets, set)
	f.Registry.Objects = slices.Clone(f.Registry.Objects)
	f.Origins = slices.Clone(f.Origins)
	return f
}

// Held copies a route that is held.
func Held(h api.Held) api.Held {
	h.Route = Route(h.Route)
	return h
}

// RIB copies what is held from a member.
func RIB(b api.RIB) api.RIB {
	b.Peer = Peer(b.Peer)
	b.Held = Each(b.Held, Held)
	return b
}

// Policy copies a policy.
func Policy(p api.Policy) api.Policy {
	p.Deny = slices.Clone(p.Deny)
	p.Prefer = slices.Clone(p.Prefer)
	return p
}

// Server copies a route server.
func Server(s api.Server) api.Server {
	s.Filter = Filter(s.Filter)
	s.Policies = Each(s.Policies, Policy)
	s.RIBs = Each(s.RIBs, RIB)
	return s
}

// Change copies a change.
func Change(c api.Change) api.Change {
	c.Route = Route(c.Route)
	return c
}

// Cache copies a route server with its offers.
func Cache(c api.Cache) api.Cache {
	c.Server = Server(c.Server)
	c.Offers = Each(c.Offers, Routes)
	return c
}

// Record copies an entry of a log.
func Record(r api.Record) api.Record {
	r.Update = Update(r.Update)
	r.Policy = Policy(r.Policy)
	return r
}

// Series copies a series.
func Series(s api.Series) api.Series {
	s.In = slices.Clone(s.In)
	s.Out = slices.Clone(s.Out)
	return s
}

// Invoice copies an invoice.
func Invoice(v api.Invoice) api.Invoice {
	v.Lines = slices.Clone(v.Lines)
	return v
}

// Step copies a step of a maintenance.
func Step(s api.Step) api.Step {
	s.Items = slices.Clone(s.Items)
	return s
}

func flight(f api.Flight) api.Flight {
	f.Frame = Frame(f.Frame)
	f.Links = slices.Clone(f.Links)
	return f
}

func month(m api.Month) api.Month {
	m.Series = Each(m.Series, Series)
	return m
}

// World copies an exchange.
func World(w api.World) api.World {
	w.Database = Database(w.Database)
	w.Fabric = Fabric(w.Fabric)
	w.Drained = slices.Clone(w.Drained)
	w.Off = slices.Clone(w.Off)
	w.Steps = Each(w.Steps, Step)
	w.Cache = Cache(w.Cache)
	w.Standby = Each(w.Standby, Record)
	w.Begun = Server(w.Begun)
	w.Buckets = slices.Clone(w.Buckets)
	w.Flights = Each(w.Flights, flight)
	w.Series = Each(w.Series, Series)
	w.Months = Each(w.Months, month)
	w.Invoices = Each(w.Invoices, Invoice)
	w.Log = slices.Clone(w.Log)
	return w
}
