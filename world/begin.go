// Package world is layer 44: an exchange, event by event. See doc/44-world.md.
package world

import (
	"cmp"
	"slices"

	"exchangepoint/api"
	"exchangepoint/compile"
	"exchangepoint/copies"
	"exchangepoint/delta"
	"exchangepoint/drain"
	"exchangepoint/fabric"
	"exchangepoint/filter"
	"exchangepoint/invoice"
	"exchangepoint/member"
	"exchangepoint/meter"
	"exchangepoint/same"
)

// The budget of each port for frames to groups.
const (
	rate  = 4
	burst = 16
)

// stepsOfRound is how many steps a round of a maintenance has.
const stepsOfRound = 4

func rulesOf(d api.Database) []api.Rule {
	l, _ := compile.Rules(d, rate, burst)
	return l
}

// begun returns a series of a port that has just begun.
func begun(port int) api.Series {
	return api.Series{Port: port, Seconds: api.BinSeconds, In: []int{0}, Out: []int{0}}
}

// Begin returns the world at the tick 0.
func Begin(d api.Database, f api.Fabric, s api.Server, t api.Tariff, steps []api.Step) (api.World, api.Errno) {
	if e := member.Check(d); e != api.OK {
		return api.World{}, e
	}
	cache, e := delta.Begin(s)
	if e != api.OK || !wired(d, f) || !payable(t) || !fitting(d, s) || !planned(f, steps) {
		return api.World{}, api.ErrArg
	}
	w := api.World{
		Database: copies.Database(d), Fabric: copies.Fabric(f), Steps: copies.Each(steps, copies.Step),
		Cache: cache, Begun: copies.Server(s), Tariff: t,
	}
	for _, r := range rulesOf(d) {
		w.Buckets = append(w.Buckets, meter.New(rate, burst))
		w.Series = append(w.Series, begun(r.Port))
	}
	return w, api.OK
}

// wired reports whether the fabric is valid and has the switches of all ports.
func wired(d api.Database, f api.Fabric) bool {
	return fabric.Valid(f) && !slices.ContainsFunc(member.Ports(d), func(p api.Port) bool { return p.Switch >= f.Switches })
}

func payable(t api.Tariff) bool {
	_, e := invoice.Price(t, 0)
	return e == api.OK
}

// membersOf returns the members in ascending order of their AS numbers.
func membersOf(d api.Database) []api.Member {
	out := slices.Clone(d.Members)
	slices.SortStableFunc(out, func(a, b api.Member) int { return cmp.Compare(a.ASN, b.ASN) })
	return out
}

// fitting reports whether a valid server is one of the members of the database.
func fitting(d api.Database, s api.Server) bool {
	members := membersOf(d)
	if len(members) != len(s.Policies) {
		return false
	}
	for i, m := range members {
		if s.Policies[i].ASN != m.ASN || !fittingPeer(m, s.RIBs[i].Peer) {
			return false
		}
		for _, h := range s.RIBs[i].Held {
			if h.Reason != filter.Check(s.Filter, s.RIBs[i].Peer, h.Route) {
				return false
			}
		}
	}
	return true
}

func fittingPeer(m api.Member, p api.Peer) bool {
	var nexts []api.Addr
	for _, port := range m.Ports {
		for _, a := range []api.Addr{port.V4, port.V6} {
			if a != (api.Addr{}) {
				nexts = append(nexts, a)
			}
		}
	}
	return p.Max4 == min(m.Max4, api.MaxHeld) && p.Max6 == min(m.Max6, api.MaxHeld) && p.Set == m.Set && slices.Equal(p.Nexts, nexts)
}

// planned reports whether steps are those of some rounds.
func planned(f api.Fabric, steps []api.Step) bool {
	var rounds [][]api.Item
	for i := 0; i < len(steps); i += stepsOfRound {
		if !drain.Valid(f, nil, steps[i].Items) {
			return false
		}
		rounds = append(rounds, steps[i].Items)
	}
	return slices.EqualFunc(steps, drain.Steps(rounds), same.Step)
}
