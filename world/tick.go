package world

import (
	"slices"

	"exchangepoint/api"
	"exchangepoint/compile"
	"exchangepoint/drain"
	"exchangepoint/fabric"
	"exchangepoint/member"
	"exchangepoint/meter"
	"exchangepoint/restart"
)

const (
	mostTicks = 100 // of one event
	bothSwept = 2   // both families of stale routes
)

// pass lets ticks pass.
func pass(w *api.World, n int) api.Errno {
	if e := passable(w, n); e != api.OK {
		return e
	}
	for range n {
		tick(w)
	}
	return api.OK
}

func passable(w *api.World, n int) api.Errno {
	switch {
	case n < 1 || n > mostTicks:
		return api.ErrArg
	case w.Now > api.MaxTick-n:
		return api.ErrTime
	}
	return api.OK
}

func tick(w *api.World) {
	w.Now++
	fly(w)
	for i, b := range w.Buckets {
		w.Buckets[i] = meter.Tick(b)
	}
	for _, b := range w.Cache.Server.RIBs {
		if restart.Due(b, w.Now) {
			apply(w, api.Record{Kind: api.LogSweep, Member: b.Peer.ASN, Grace: bothSwept})
		}
	}
	if w.Now-w.Since != api.BinTicks {
		return
	}
	w.Since = w.Now
	for i := range w.Series {
		s := &w.Series[i]
		if len(s.In) < api.MaxBins {
			s.In, s.Out = append(s.In, 0), append(s.Out, 0)
		}
	}
}

// fly lets each flight go on by one link, or arrive.
func fly(w *api.World) {
	if len(w.Flights) == 0 {
		return
	}
	working := Working(*w)
	rules := rulesOf(w.Database)
	var left []api.Flight
	for _, f := range w.Flights {
		switch {
		case len(f.Links) == 0:
			arrive(w, f, rules, working)
		case fabric.Works(working, f.Links[0]):
			f.Links = slices.Clone(f.Links[1:])
			left = append(left, f)
		default:
			lose(w, f, f.Links[0], fabric.Works(w.Fabric, f.Links[0]))
		}
	}
	w.Flights = left
}

func arrive(w *api.World, f api.Flight, rules []api.Rule, working api.Fabric) {
	r, _ := compile.Rule(rules, f.To)
	if alive(working, r.Switch) {
		see(w, api.Saw{Kind: api.SawArrived, A: f.From, B: f.To})
		return
	}
	lose(w, f, -1, alive(w.Fabric, r.Switch))
}

// lose writes down that a frame was lost at a link, because of the maintenance if cut is set.
func lose(w *api.World, f api.Flight, link int, cut bool) {
	kind := api.SawLost
	if cut {
		kind = api.SawCut
	}
	see(w, api.Saw{Kind: kind, A: f.From, B: f.To, C: link})
}

func alive(f api.Fabric, s int) bool {
	return s >= 0 && s < len(f.Dead) && !f.Dead[s]
}

// maintain carries out the next step of the maintenance.
func maintain(w *api.World) api.Errno {
	if len(w.Steps) == 0 {
		return api.ErrNone
	}
	s := w.Steps[0]
	switch s.Kind {
	case api.DrainBegin:
		if separates(*w, s.Items) {
			return api.ErrLoss
		}
		w.Drained = append(w.Drained, s.Items...)
	case api.DrainWait:
		if e := pass(w, s.Wait); e != api.OK {
			return e
		}
	case api.DrainDown:
		w.Drained = without(w.Drained, s.Items)
		w.Off = append(w.Off, s.Items...)
		see(w, api.Saw{Kind: api.SawDown, A: len(s.Items)})
	case api.DrainUp:
		w.Off = without(w.Off, s.Items)
	}
	w.Steps = slices.Clone(w.Steps[1:])
	return api.OK
}

func without(l, items []api.Item) []api.Item {
	return slices.DeleteFunc(slices.Clone(l), func(x api.Item) bool { return slices.Contains(items, x) })
}

// separates reports whether frames could not go on everywhere without items.
func separates(w api.World, items []api.Item) bool {
	if !fabric.Valid(w.Fabric) {
		return false
	}
	used := make([]bool, w.Fabric.Switches)
	for _, p := range member.Ports(w.Database) {
		if p.Switch >= 0 && p.Switch < len(used) {
			used[p.Switch] = true
		}
	}
	for _, x := range items {
		if x.Switch && x.Index >= 0 && x.Index < len(used) && used[x.Index] {
			return true
		}
	}
	now := Avoiding(w)
	before, after := fabric.Parts(now), fabric.Parts(drain.Without(now, items))
	for a, part := range before {
		for b := range before[:a] {
			if used[a] && used[b] && part >= 0 && before[b] == part && (after[a] < 0 || after[a] != after[b]) {
				return true
			}
		}
	}
	return false
}
