package audit

import (
	"math/rand"
	"slices"
	"testing"

	"exchangepoint/addr"
	"exchangepoint/api"
	"exchangepoint/arp"
	"exchangepoint/attribute"
	"exchangepoint/community"
	"exchangepoint/copies"
	"exchangepoint/delta"
	"exchangepoint/drain"
	"exchangepoint/ether"
	"exchangepoint/member"
	"exchangepoint/prefix"
	"exchangepoint/ribin"
	"exchangepoint/world"
)

const text = `lan 192.0.2.0/24 2001:db8::/64
server 64496 rs - 0 0
port 9 0 10 02:00:00:00:00:09 192.0.2.9 -
member 100 a - 3 2
port 1 0 10 02:00:00:00:00:01 192.0.2.1 -
member 200 b - 3 2
port 2 1 10 02:00:00:00:00:02 192.0.2.2 -
member 300 c - 3 2
port 3 2 10 02:00:00:00:00:03,02:00:00:00:00:33 192.0.2.3 -
`

func pre(s string) api.Prefix {
	p, e := prefix.Parse(s)
	if e != api.OK {
		panic(s)
	}
	return p
}

func at(s string) api.Addr {
	a, _ := addr.Parse(s)
	return a
}

func mac(n byte) api.MAC { return api.MAC{2, 0, 0, 0, 0, n} }

func link(i int) api.Item { return api.Item{Index: i} }

// begin returns a world with a ring of four switches, the last one without a port.
func begin(t *testing.T) api.World {
	t.Helper()
	d, e := member.Parse(text)
	if e != api.OK {
		t.Fatal(e)
	}
	f := api.Fabric{Switches: 4, Down: make([]bool, 4), Dead: make([]bool, 4)}
	for i := range 4 {
		f.Links = append(f.Links, api.Link{A: i, B: (i + 1) % 4, Capacity: 10})
	}
	s := api.Server{Filter: api.Filter{Own: 64496, Max4: 24, Max6: 48, Hops: 20, Hole4: 25, Hole6: 64}}
	for i, n := range []int{100, 200, 300} {
		s.Filter.Registry.Objects = append(s.Filter.Registry.Objects, api.Object{Prefix: pre("0.0.0.0/0"), Max: 24, ASN: n})
		s.Policies = append(s.Policies, api.Policy{ASN: n})
		s.RIBs = append(s.RIBs, ribin.New(api.Peer{ASN: n, Max4: 3, Max6: 2, Nexts: []api.Addr{{Lo: at("192.0.2.1").Lo + uint64(i)}}}))
	}
	w, e := world.Begin(d, f, s, api.Tariff{Base: 100, Included: 1, Rate: 10}, drain.Steps([][]api.Item{{link(0)}, {link(2), {Switch: true, Index: 3}}}))
	if e != api.OK {
		t.Fatal(e)
	}
	return w
}

func ev(kind, a, b int) api.Event { return api.Event{Kind: kind, A: a, B: b} }

func update(n, hops int, communities string, l ...string) api.Event {
	a := attribute.Empty()
	a.Origin, a.Path, a.Next = 0, []api.Segment{{ASNs: slices.Repeat([]int{n}, hops)}}, at("192.0.2."+string(rune('0'+n/100)))
	a.Communities, a.Large, _ = community.Parse(communities)
	u := api.Update{Attrs: a}
	for _, s := range l {
		u.Announce = append(u.Announce, pre(s))
	}
	return api.Event{Kind: api.EvUpdate, A: n, Update: u}
}

func frame(from, to byte) api.Event {
	return api.Event{Kind: api.EvFrame, A: int(from), Frame: api.Frame{Dst: mac(to), Src: mac(from), Type: api.TypeIPv4}}
}

// busy returns a world in which everything has happened.
func busy(t *testing.T) api.World {
	t.Helper()
	l := []api.Event{
		ev(api.EvUp, 100, 0), ev(api.EvUp, 200, 0), ev(api.EvUp, 300, 0), update(100, 2, "", "10.0.0.0/8", "11.0.0.0/25"), update(200, 1, "", "10.0.0.0/8"), frame(1, 2), frame(1, 3), frame(1, 8), ev(api.EvStep, 0, 0), frame(2, 1), ev(api.EvStep, 0, 0),
		{Kind: api.EvSample, A: 1000, Sample: api.Sample{In: 1, Out: 2, Bytes: 60000}}, ev(api.EvClose, 0, 0), frame(3, 2), frame(3, 2), ev(api.EvTick, 1, 0), frame(2, 3),
	}
	w, n := world.Run(begin(t), l)
	if n != len(l) || len(w.Flights) != 3 || len(w.Invoices) != 3 || len(w.Cache.Offers[2]) != 1 {
		t.Fatal("not busy", n, len(w.Flights))
	}
	return w
}

func TestNothingViolated(t *testing.T) {
	if l := Check(begin(t)); len(l) != 0 {
		t.Error("an empty world", l)
	}
	if l := Check(busy(t)); len(l) != 0 {
		t.Error("a busy world", l)
	}
}

func TestViolations(t *testing.T) {
	for name, x := range map[string]struct {
		change func(w *api.World)
		want   []int
	}{
		"an offer is missing": {func(w *api.World) { w.Cache.Offers[2] = nil }, []int{1}}, "another offer": {func(w *api.World) { w.Cache.Offers[2][0].Attrs.MED = 5 }, []int{1}}, "no lists": {func(w *api.World) { w.Cache.Offers = nil }, []int{1}}, "invalid": {func(w *api.World) { w.Cache.Server.Filter.Hops = 0 }, []int{1}},
		"refused": {func(w *api.World) {
			w.Cache.Server.RIBs[0].Held[1].Reason = 0
			w.Cache, _ = delta.Begin(w.Cache.Server)
		}, []int{2}},
		"not held":     {func(w *api.World) { w.Cache.Offers[2][0].Prefix = pre("12.0.0.0/8") }, []int{1, 2}},
		"from another": {func(w *api.World) { w.Cache.Offers[2][0].From = 300 }, []int{1, 2}},
		"a flight":     {func(w *api.World) { w.Flights = w.Flights[1:] }, []int{4}}, "another port": {func(w *api.World) { w.Flights[0].From = 1 }, []int{4}}, "a station": {func(w *api.World) { w.Flights[0].Frame.Dst = mac(1) }, []int{4}}, "a second station": {func(w *api.World) { w.Flights[2].Frame.Dst = mac(0x33) }, nil},
		"a port that is not there": {func(w *api.World) {
			w.Flights[0].To = 77
			w.Log = append(w.Log, api.Saw{Kind: api.SawSent, A: 3, B: 77}, api.Saw{Kind: api.SawArrived, A: 3, B: 2})
		}, []int{4}},
		"sent": {func(w *api.World) { w.Log = append(w.Log, api.Saw{Kind: api.SawSent, A: 7, B: 8}) }, []int{4}}, "arrived": {func(w *api.World) { w.Log = append(w.Log, api.Saw{Kind: api.SawArrived, A: 7, B: 8}) }, []int{4}}, "lost": {func(w *api.World) {
			w.Log = append(w.Log, api.Saw{Kind: api.SawSent, A: 7, B: 8}, api.Saw{Kind: api.SawLost, A: 7, B: 8})
		}, nil}, "the other way": {func(w *api.World) {
			w.Log = append(w.Log, api.Saw{Kind: api.SawSent, A: 7, B: 8}, api.Saw{Kind: api.SawArrived, A: 8, B: 7})
		}, []int{4}},
		"cut": {func(w *api.World) {
			w.Log = append(w.Log, api.Saw{Kind: api.SawSent, A: 7, B: 8}, api.Saw{Kind: api.SawCut, A: 7, B: 8})
		}, []int{5}}, "cut alone": {func(w *api.World) { w.Log = append(w.Log, api.Saw{Kind: api.SawCut, A: 7, B: 8}) }, []int{4, 5}},
		"a total": {func(w *api.World) { w.Invoices[0].Total++ }, []int{6}}, "a line": {func(w *api.World) { w.Invoices[1].Lines[0].Used++ }, []int{6}}, "a month": {func(w *api.World) { w.Invoices[1].Month = 2 }, []int{6}}, "month 0": {func(w *api.World) { w.Invoices[1].Month = 0 }, []int{6}}, "a member": {func(w *api.World) { w.Invoices[1].Member = 64496 }, []int{6}}, "a version": {func(w *api.World) { w.Invoices[1].Version = 2 }, []int{6}}, "the tariff": {func(w *api.World) { w.Tariff.Base++ }, []int{6}},
		"not written down": {func(w *api.World) {
			w.Log = slices.DeleteFunc(w.Log, func(s api.Saw) bool { return s.Kind == api.SawInvoice && s.A == 200 })
		}, []int{6}}, "another total": {func(w *api.World) {
			for i := range w.Log {
				if w.Log[i].Kind == api.SawInvoice {
					w.Log[i].B++
				}
			}
		}, []int{6}},
	} {
		w := busy(t)
		x.change(&w)
		if l := Check(w); !slices.Equal(l, x.want) {
			t.Error("Check", name, l, x.want)
		}
	}
}

func TestCounts(t *testing.T) {
	l := []api.Saw{{Kind: api.SawSent, A: 1, B: 2}, {Kind: api.SawSent, A: 1, B: 2}, {Kind: api.SawArrived, A: 1, B: 2}, {Kind: api.SawSent, A: 2, B: 1}, {Kind: api.SawLost, A: 1, B: 2}}
	if Sent(l, 1, 2) != 2 || Sent(l, 2, 1) != 1 || Sent(l, 1, 3) != 0 || Arrived(l, 1, 2) != 1 || Arrived(l, 2, 1) != 0 {
		t.Error("Sent or Arrived")
	}
}

func TestPath(t *testing.T) {
	w := begin(t)
	fly := func(to int, links ...int) api.World {
		x := copies.World(w)
		x.Flights = []api.Flight{{From: 1, To: to, Links: links}}
		return x
	}
	for _, x := range []struct {
		w    api.World
		i    int
		want bool
	}{{fly(2, 0), 0, true}, {fly(2, 3, 2, 1), 0, true}, {fly(3, 0, 1), 0, true}, {fly(3, 0, 2), 0, false}, {fly(3, 0), 0, false}, {fly(2), 0, true}, {fly(2, 0), 1, false}, {fly(2, 0), -1, false}, {fly(2, 4), 0, false}, {fly(2, -1, 0), 0, false}, {fly(7, 0), 0, false}} {
		if Path(x.w, x.i) != x.want {
			t.Error("Path", x.w.Flights, x.i)
		}
	}
}

func random(r *rand.Rand) api.Event {
	n := 100 * (1 + r.Intn(3))
	port := []byte{1, 2, 3, 9}
	switch r.Intn(16) {
	case 0:
		return ev(api.EvUp, n, 0)
	case 1:
		return ev(api.EvDown, n, r.Intn(3)*4)
	case 2:
		return api.Event{Kind: api.EvPolicy, A: n, Policy: api.Policy{ASN: n, Hops: r.Intn(4), Holes: r.Intn(2) == 0}}
	case 3, 4, 5:
		words := []string{"", "", "0:100", "0:64496 64496:300", "64496:102:0", "65535:666"}
		l := []string{"10.0.0.0/16", "10.0.0.1/32", "11.0.0.0/25", "12.0.0.0/8", "13.0.0.0/8"}
		return update(n, 1+r.Intn(3), words[r.Intn(len(words))], l[r.Intn(5)], l[r.Intn(5)])
	case 6:
		return ev(api.EvTick, 1+r.Intn(5), 0)
	case 7:
		return ev(api.EvFail, r.Intn(5), r.Intn(2))
	case 8:
		return ev(api.EvRepair, r.Intn(5), r.Intn(2))
	case 9:
		return ev(api.EvStep, 0, 0)
	case 10:
		return api.Event{Kind: api.EvSample, A: 1 + r.Intn(1<<20), Sample: api.Sample{In: 1 + r.Intn(4), Out: 1 + r.Intn(4), Bytes: r.Intn(70000)}}
	case 11:
		return ev(api.EvClose, 0, 0)
	case 12:
		return ev(api.EvSwap, 0, 0)
	case 13:
		from := port[r.Intn(4)]
		b, _ := arp.Encode(arp.Request(mac(from), at("192.0.2."+string('0'+from)), at("192.0.2."+string('0'+port[r.Intn(4)]))))
		return api.Event{Kind: api.EvFrame, A: int(from), Frame: api.Frame{Dst: ether.Broadcast(), Src: mac(from), Type: api.TypeARP, Data: b}}
	}
	return frame(port[r.Intn(4)], port[r.Intn(4)])
}

// A world that has gone through any list of events violates no rule.
func TestTheorem(t *testing.T) {
	r := rand.New(rand.NewSource(1))
	for range 60 {
		w := begin(t)
		var l []api.Event
		for range 150 {
			l = append(l, random(r))
		}
		for len(l) > 0 {
			w, _ = world.Run(w, l[:50])
			l = l[50:]
			if bad := Check(w); len(bad) > 0 {
				t.Fatal("Check", bad, w.Log)
			}
			for i := range w.Flights {
				if !Path(w, i) {
					t.Fatal("Path", w.Flights[i])
				}
			}
		}
	}
}
