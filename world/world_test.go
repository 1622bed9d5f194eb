package world

import (
	"reflect"
	"slices"
	"strings"
	"testing"

	"exchangepoint/addr"
	"exchangepoint/api"
	"exchangepoint/arp"
	"exchangepoint/attribute"
	"exchangepoint/copies"
	"exchangepoint/delta"
	"exchangepoint/drain"
	"exchangepoint/ether"
	"exchangepoint/invoice"
	"exchangepoint/member"
	"exchangepoint/meter"
	"exchangepoint/prefix"
	"exchangepoint/ribin"
)

const text = `lan 192.0.2.0/24 2001:db8::/64
server 64496 rs - 0 0
port 9 0 10 02:00:00:00:00:09 192.0.2.9 -
member 200 b SB 3 300
port 4 2 10 02:00:00:00:00:04 192.0.2.4 2001:db8::4
member 100 a SA 3 2
port 1 0 10 02:00:00:00:00:01 192.0.2.1 -
port 3 1 10 02:00:00:00:00:03 - 2001:db8::3
`

func pre(s string) api.Prefix {
	p, e := prefix.Parse(s)
	if e != api.OK {
		panic(s)
	}
	return p
}

func at(s string) api.Addr {
	a, _ := addr.Parse(s)
	return a
}

func link(i int) api.Item { return api.Item{Index: i} }

func sw(i int) api.Item { return api.Item{Switch: true, Index: i} }

func database() api.Database {
	d, e := member.Parse(text)
	if e != api.OK {
		panic(e)
	}
	return d
}

// ring has the switches 0 to 3; the last one has no port.
func ring() api.Fabric {
	f := api.Fabric{Switches: 4, Down: make([]bool, 4), Dead: make([]bool, 4)}
	for i := range 4 {
		f.Links = append(f.Links, api.Link{A: i, B: (i + 1) % 4, Capacity: 10})
	}
	return f
}

func server() api.Server {
	s := api.Server{Filter: api.Filter{Own: 64496, Max4: 24, Max6: 48, Hops: 20}}
	s.Filter.Registry.Sets = []api.Set{{Name: "SA"}, {Name: "SB"}}
	for _, n := range []int{100, 200} {
		s.Filter.Registry.Objects = append(s.Filter.Registry.Objects, api.Object{Prefix: pre("0.0.0.0/0"), Max: 24, ASN: n})
		s.Policies = append(s.Policies, api.Policy{ASN: n})
	}
	s.RIBs = []api.RIB{
		ribin.New(api.Peer{ASN: 100, Set: "SA", Max4: 3, Max6: 2, Nexts: []api.Addr{at("192.0.2.1"), at("2001:db8::3")}}),
		ribin.New(api.Peer{ASN: 200, Set: "SB", Max4: 3, Max6: 256, Nexts: []api.Addr{at("192.0.2.4"), at("2001:db8::4")}}),
	}
	return s
}

var tariff = api.Tariff{Base: 100, Included: 1, Rate: 10}

func begin(t *testing.T, rounds ...[]api.Item) api.World {
	t.Helper()
	w, e := Begin(database(), ring(), server(), tariff, drain.Steps(rounds))
	if e != api.OK {
		t.Fatal("Begin", e)
	}
	return w
}

func TestBegin(t *testing.T) {
	w := begin(t, []api.Item{link(1)})
	cache, _ := delta.Begin(server())
	want := api.World{Database: database(), Fabric: ring(), Steps: drain.Steps([][]api.Item{{link(1)}}), Cache: cache, Begun: server(), Tariff: tariff}
	for _, port := range []int{1, 3, 4, 9} {
		want.Buckets = append(want.Buckets, meter.New(4, 16))
		want.Series = append(want.Series, api.Series{Port: port, Seconds: 300, In: []int{0}, Out: []int{0}})
	}
	if !reflect.DeepEqual(w, want) {
		t.Errorf("Begin %+v", w)
	}
}

func TestBeginErrors(t *testing.T) {
	type parts struct {
		d     api.Database
		f     api.Fabric
		s     api.Server
		t     api.Tariff
		steps []api.Step
	}
	held := func(p *parts, reason int) {
		a := attribute.Empty()
		a.Origin, a.Path, a.Next = 0, []api.Segment{{ASNs: []int{100}}}, at("192.0.2.1")
		p.s.RIBs[0].Up = true
		p.s.RIBs[0].Held = []api.Held{{Route: api.Route{Prefix: pre("10.0.0.0/8"), From: 100, Attrs: a}, Reason: reason}}
	}
	for name, x := range map[string]struct {
		change func(p *parts)
		want   api.Errno
	}{
		"good": {func(p *parts) { held(p, 0) }, api.OK}, "database": {func(p *parts) { p.d.Members[0].ASN = 100; p.f.Switches = 0 }, api.ErrExists}, "fabric": {func(p *parts) { p.f.Switches = 0 }, api.ErrArg}, "switch": {func(p *parts) { p.d.Members[0].Ports[0].Switch = 4 }, api.ErrArg}, "server's switch": {func(p *parts) { p.d.Servers[0].Ports[0].Switch = 4 }, api.ErrArg},
		"tariff": {func(p *parts) { p.t.Rate = -1 }, api.ErrArg}, "server": {func(p *parts) { p.s.Filter.Hops = 0 }, api.ErrArg}, "policies": {func(p *parts) { p.s.Policies[0].ASN = 101; p.s.RIBs[0].Peer.ASN = 101 }, api.ErrArg}, "missing": {func(p *parts) { p.s.Policies, p.s.RIBs = p.s.Policies[:1], p.s.RIBs[:1] }, api.ErrArg},
		"Max4": {func(p *parts) { p.s.RIBs[0].Peer.Max4 = 4 }, api.ErrArg}, "Max6": {func(p *parts) { p.s.RIBs[1].Peer.Max6 = 255 }, api.ErrArg}, "set": {func(p *parts) { p.s.RIBs[0].Peer.Set = "SB" }, api.ErrArg}, "nexts": {func(p *parts) { slices.Reverse(p.s.RIBs[0].Peer.Nexts) }, api.ErrArg}, "reason": {func(p *parts) { held(p, 5) }, api.ErrArg},
		"steps": {func(p *parts) { p.steps = p.steps[:3] }, api.ErrArg}, "wait": {func(p *parts) { p.steps[1].Wait = 7 }, api.ErrArg}, "kinds": {func(p *parts) { p.steps[2].Kind = api.DrainUp }, api.ErrArg}, "items": {func(p *parts) { p.steps = drain.Steps([][]api.Item{{link(4)}}) }, api.ErrArg}, "other items": {func(p *parts) { p.steps[3].Items = nil }, api.ErrArg}, "rounds": {func(p *parts) { p.steps = drain.Steps([][]api.Item{{sw(3), link(0)}, nil, {link(0)}}) }, api.OK},
	} {
		p := parts{database(), ring(), server(), tariff, drain.Steps([][]api.Item{{link(1)}})}
		x.change(&p)
		if w, e := Begin(p.d, p.f, p.s, p.t, p.steps); e != x.want || e != api.OK && !reflect.DeepEqual(w, api.World{}) {
			t.Error("Begin", name, e)
		}
	}
}

// play carries out events that have no error.
func play(t *testing.T, w api.World, l ...api.Event) api.World {
	t.Helper()
	for _, e := range l {
		before := copies.World(w)
		next, errno := Step(w, e)
		if errno != api.OK {
			t.Fatal("Step", e, errno)
		}
		if !reflect.DeepEqual(before, copies.World(w)) {
			t.Fatal("Step has changed its argument")
		}
		w = next
	}
	return w
}

// refuse checks that an event has an error, and that the world stays as it is.
func refuse(t *testing.T, w api.World, e api.Event, want api.Errno) {
	t.Helper()
	if next, errno := Step(w, e); errno != want || !reflect.DeepEqual(copies.World(w), next) {
		t.Error("Step", e.Kind, e.A, e.B, errno, want)
	}
}

func update(med int, l ...string) api.Event {
	a := attribute.Empty()
	a.Origin, a.Path, a.Next, a.MED = 0, []api.Segment{{ASNs: []int{100}}}, at("192.0.2.1"), med
	u := api.Update{Attrs: a}
	for _, s := range l {
		u.Announce = append(u.Announce, pre(s))
	}
	return api.Event{Kind: api.EvUpdate, A: 100, Update: u}
}

func ev(kind, a, b int) api.Event { return api.Event{Kind: kind, A: a, B: b} }

func kinds(w api.World) string {
	names := []string{"", "sent", "refused", "arrived", "lost", "change", "down", "invoice", "cut"}
	var out []string
	for _, s := range w.Log {
		out = append(out, names[s.Kind])
	}
	return strings.Join(out, " ")
}

func TestRoutes(t *testing.T) {
	w := play(t, begin(t), ev(api.EvUp, 200, 0), ev(api.EvUp, 100, 0), ev(api.EvTick, 5, 0), update(1, "10.0.0.0/8", "11.0.0.0/8"))
	if len(w.Standby) != 3 || w.Standby[2].Tick != 5 || w.Standby[2].Kind != api.LogUpdate || w.Standby[0].Member != 200 {
		t.Error("Standby", w.Standby)
	}
	if !reflect.DeepEqual(w.Log, []api.Saw{{Kind: api.SawChange, Tick: 5, A: 200, Prefix: pre("10.0.0.0/8")}, {Kind: api.SawChange, Tick: 5, A: 200, Prefix: pre("11.0.0.0/8")}}) || len(w.Cache.Offers[1]) != 2 {
		t.Error("Log", w.Log)
	}
	refuse(t, w, ev(api.EvUp, 100, 0), api.ErrState)
	refuse(t, w, ev(api.EvUp, 300, 0), api.ErrMember)
	refuse(t, w, ev(api.EvPolicy, 100, 0), api.ErrPolicy)
	refuse(t, w, ev(api.EvUpdate, 100, 0), api.ErrArg)
	refuse(t, w, ev(api.EvDown, 100, -1), api.ErrArg)
	refuse(t, w, ev(0, 1, 1), api.ErrEvent)
	refuse(t, w, ev(13, 1, 1), api.ErrEvent)
	p := play(t, w, api.Event{Kind: api.EvPolicy, A: 200, Policy: api.Policy{ASN: 200, No4: true}})
	if len(p.Cache.Offers[1]) != 0 || len(p.Log) != 4 || p.Standby[3].Kind != api.LogPolicy {
		t.Error("EvPolicy", p.Log)
	}
	many := play(t, w, update(1, "12.0.0.0/8", "13.0.0.0/8"))
	if last := many.Standby[3]; last.Kind != api.LogDown || last.Grace != 0 || last.Tick != 5 || many.Cache.Server.RIBs[0].Up || len(many.Log) != 4 {
		t.Error("too many routes", many.Standby, many.Log)
	}
	down := play(t, w, ev(api.EvDown, 100, 7))
	if b := down.Cache.Server.RIBs[0]; b.Up || b.Until != 12 || len(down.Log) != 2 {
		t.Error("EvDown", down.Cache.Server.RIBs[0])
	}
	if x := play(t, down, ev(api.EvTick, 6, 0)); len(x.Standby) != 4 || len(x.Log) != 2 {
		t.Error("a sweep that is not due", x.Standby)
	}
	swept := play(t, down, ev(api.EvTick, 9, 0))
	if r := swept.Standby[4]; len(swept.Standby) != 5 || r.Kind != api.LogSweep || r.Tick != 12 || r.Grace != 2 || swept.Log[2].Tick != 12 || len(swept.Cache.Offers[1]) != 0 {
		t.Error("a sweep that is due", swept.Standby)
	}
	if x := play(t, swept, ev(api.EvSwap, 0, 0)); !reflect.DeepEqual(x, swept) {
		t.Error("EvSwap")
	}
	broken := swept
	broken.Cache = api.Cache{}
	if x := play(t, broken, ev(api.EvSwap, 0, 0)); !reflect.DeepEqual(x.Cache, swept.Cache) {
		t.Error("EvSwap of another cache")
	}
	broken.Standby = make([]api.Record, 1001)
	refuse(t, broken, ev(api.EvSwap, 0, 0), api.ErrLimit)
}

func mac(n byte) api.MAC { return api.MAC{2, 0, 0, 0, 0, n} }

func frame(from, to byte) api.Event {
	return api.Event{Kind: api.EvFrame, A: int(from), Frame: api.Frame{Dst: mac(to), Src: mac(from), Type: api.TypeIPv4, Data: []byte{1}}}
}

func TestFrames(t *testing.T) {
	w := play(t, begin(t), frame(1, 9), frame(1, 3), frame(1, 7))
	if !reflect.DeepEqual(w.Log, []api.Saw{{Kind: api.SawSent, A: 1, B: 9}, {Kind: api.SawSent, A: 1, B: 3}, {Kind: api.SawRefused, A: 1, B: api.DropUnknown}}) {
		t.Error("Log", w.Log)
	}
	if len(w.Flights) != 2 || len(w.Flights[0].Links) != 0 || !slices.Equal(w.Flights[1].Links, []int{0}) || w.Flights[1].From != 1 || w.Flights[1].To != 3 || w.Flights[1].Sent != 0 || w.Flights[1].Frame.Dst != mac(3) {
		t.Error("Flights", w.Flights)
	}
	w = play(t, w, ev(api.EvTick, 1, 0))
	if len(w.Flights) != 1 || len(w.Flights[0].Links) != 0 || w.Log[3] != (api.Saw{Kind: api.SawArrived, Tick: 1, A: 1, B: 9}) {
		t.Error("after a tick", w.Flights, w.Log)
	}
	w = play(t, w, ev(api.EvTick, 1, 0))
	if len(w.Flights) != 0 || w.Log[4] != (api.Saw{Kind: api.SawArrived, Tick: 2, A: 1, B: 3}) {
		t.Error("after two ticks", w.Flights, w.Log)
	}
	other := play(t, w, api.Event{Kind: api.EvFrame, A: 5, Frame: frame(1, 3).Frame})
	if other.Log[5] != (api.Saw{Kind: api.SawRefused, Tick: 2, A: 5, B: api.DropSource}) || !reflect.DeepEqual(other.Buckets, w.Buckets) {
		t.Error("a port that is not there", other.Log)
	}
	b, _ := arp.Encode(arp.Request(mac(1), at("192.0.2.1"), at("192.0.2.9")))
	ask := api.Event{Kind: api.EvFrame, A: 1, Frame: api.Frame{Dst: ether.Broadcast(), Src: mac(1), Type: api.TypeARP, Data: b}}
	w, n := Run(w, slices.Repeat([]api.Event{ask}, 20))
	if last := w.Log[len(w.Log)-1]; n != 20 || len(w.Flights) != 16 || w.Buckets[0].Level != 0 || last.B != api.DropRate || w.Flights[0].Frame.Dst != mac(9) {
		t.Error("a budget", n, len(w.Flights), last)
	}
	w = play(t, w, ev(api.EvTick, 2, 0))
	if w.Buckets[0].Level != 8 || w.Buckets[1].Level != 16 {
		t.Error("a budget after ticks", w.Buckets)
	}
	full, n := Run(w, slices.Repeat([]api.Event{frame(1, 9)}, 201))
	if n != 200 || len(full.Flights) != 200 {
		t.Error("flights", n, len(full.Flights))
	}
	refuse(t, full, frame(1, 7), api.ErrLimit)
}

func TestFailures(t *testing.T) {
	w := play(t, begin(t), frame(1, 3), ev(api.EvFail, 0, 0))
	if !w.Fabric.Down[0] {
		t.Error("EvFail")
	}
	lost := play(t, w, ev(api.EvTick, 1, 0))
	if lost.Log[1] != (api.Saw{Kind: api.SawLost, Tick: 1, A: 1, B: 3, C: 0}) || len(lost.Flights) != 0 {
		t.Error("lost on a link", lost.Log)
	}
	for _, e := range []api.Event{ev(api.EvFail, 0, 0), ev(api.EvFail, 4, 0), ev(api.EvFail, -1, 0), ev(api.EvFail, 1, 2), ev(api.EvFail, 4, 1), ev(api.EvRepair, 1, 0), ev(api.EvRepair, 1, 1), ev(api.EvRepair, 0, 2)} {
		refuse(t, w, e, api.ErrArg)
	}
	back := play(t, w, ev(api.EvRepair, 0, 0), ev(api.EvTick, 1, 0), ev(api.EvFail, 1, 1), ev(api.EvTick, 1, 0))
	if back.Log[1] != (api.Saw{Kind: api.SawLost, Tick: 2, A: 1, B: 3, C: -1}) {
		t.Error("lost at a switch", back.Log)
	}
	far := play(t, w, frame(1, 3))
	if !slices.Equal(far.Flights[1].Links, []int{3, 2, 1}) {
		t.Error("another way", far.Flights)
	}
	split := play(t, w, ev(api.EvFail, 2, 0), frame(1, 3))
	if split.Log[1].B != api.DropDown {
		t.Error("no way", split.Log)
	}
	if x := play(t, split, ev(api.EvFail, 0, 1), ev(api.EvRepair, 0, 1)); !reflect.DeepEqual(x, split) {
		t.Error("EvRepair")
	}
}

func TestMaintenance(t *testing.T) {
	w := begin(t, []api.Item{link(0), sw(3)}, []api.Item{link(0)})
	refuse(t, w, ev(api.EvStep, 0, 0), api.ErrLoss)
	w = begin(t, []api.Item{link(0)}, []api.Item{sw(3)}, []api.Item{sw(0)})
	w = play(t, w, frame(1, 3), ev(api.EvStep, 0, 0))
	if !slices.Equal(w.Drained, []api.Item{link(0)}) || len(w.Steps) != 11 || !Avoiding(w).Down[0] || Working(w).Down[0] || w.Fabric.Down[0] {
		t.Error("DrainBegin", w.Drained)
	}
	w = play(t, w, frame(1, 3))
	if !slices.Equal(w.Flights[1].Links, []int{3, 2, 1}) {
		t.Error("new frames avoid what is drained", w.Flights)
	}
	cut := w
	cut.Steps = w.Steps[1:]
	cut = play(t, cut, ev(api.EvStep, 0, 0), ev(api.EvTick, 1, 0))
	if last := cut.Log[len(cut.Log)-1]; last != (api.Saw{Kind: api.SawCut, Tick: 1, A: 1, B: 3, C: 0}) {
		t.Error("without waiting", cut.Log)
	}
	w = play(t, w, ev(api.EvStep, 0, 0))
	if w.Now != 8 || len(w.Flights) != 0 || len(w.Steps) != 10 {
		t.Error("DrainWait", w.Now, w.Flights)
	}
	w = play(t, w, ev(api.EvStep, 0, 0))
	if len(w.Drained) != 0 || !slices.Equal(w.Off, []api.Item{link(0)}) || !Working(w).Down[0] || w.Log[len(w.Log)-1] != (api.Saw{Kind: api.SawDown, Tick: 8, A: 1}) {
		t.Error("DrainDown", w.Off, w.Log)
	}
	w = play(t, w, ev(api.EvStep, 0, 0))
	if len(w.Off) != 0 || Working(w).Down[0] {
		t.Error("DrainUp", w.Off)
	}
	failed := play(t, w, ev(api.EvFail, 0, 0))
	refuse(t, failed, ev(api.EvStep, 0, 0), api.ErrLoss)
	dead := play(t, failed, ev(api.EvFail, 1, 1))
	if x := play(t, dead, ev(api.EvFail, 2, 1), ev(api.EvStep, 0, 0)); len(x.Drained) != 1 {
		t.Error("nothing is joined any more, so nothing is lost")
	}
	w = play(t, w, ev(api.EvStep, 0, 0), ev(api.EvStep, 0, 0), ev(api.EvStep, 0, 0))
	if !Working(w).Dead[3] {
		t.Error("a switch is off")
	}
	w = play(t, w, ev(api.EvStep, 0, 0))
	refuse(t, w, ev(api.EvStep, 0, 0), api.ErrLoss)
	w.Steps = nil
	refuse(t, w, ev(api.EvStep, 0, 0), api.ErrNone)
	late := begin(t, []api.Item{link(0)})
	late.Now = api.MaxTick - 7
	late = play(t, late, ev(api.EvStep, 0, 0))
	refuse(t, late, ev(api.EvStep, 0, 0), api.ErrTime)
}

func TestSwitchOffUnderAFlight(t *testing.T) {
	w := play(t, begin(t), frame(1, 9))
	w.Off = []api.Item{sw(0)}
	w = play(t, w, ev(api.EvTick, 1, 0))
	if w.Log[1] != (api.Saw{Kind: api.SawCut, Tick: 1, A: 1, B: 9, C: -1}) {
		t.Error("a switch that was switched off", w.Log)
	}
}

func TestTicks(t *testing.T) {
	w := begin(t)
	for _, n := range []int{0, -1, 101} {
		refuse(t, w, ev(api.EvTick, n, 0), api.ErrArg)
	}
	w = play(t, w, ev(api.EvTick, 9, 0))
	if len(w.Series[0].In) != 1 || w.Since != 0 {
		t.Error("after 9 ticks", w.Series)
	}
	w = play(t, w, ev(api.EvTick, 1, 0))
	if len(w.Series[3].In) != 2 || len(w.Series[3].Out) != 2 || w.Since != 10 {
		t.Error("after 10 ticks", w.Series)
	}
	w = play(t, w, ev(api.EvTick, 100, 0))
	if w.Now != 110 || len(w.Series[0].In) != 12 || w.Since != 110 {
		t.Error("after 110 ticks", w.Now)
	}
	w.Series[1].In, w.Series[1].Out = make([]int, api.MaxBins), make([]int, api.MaxBins)
	w = play(t, w, ev(api.EvTick, 10, 0))
	if len(w.Series[1].In) != api.MaxBins || len(w.Series[0].In) != 13 {
		t.Error("a full series")
	}
	w.Now, w.Since = api.MaxTick-3, api.MaxTick-3
	refuse(t, w, ev(api.EvTick, 4, 0), api.ErrTime)
	if x := play(t, w, ev(api.EvTick, 3, 0)); x.Now != api.MaxTick {
		t.Error("at the last tick", x.Now)
	}
}

func sampled(in, out, bytes, ratio int) api.Event {
	return api.Event{Kind: api.EvSample, A: ratio, Sample: api.Sample{In: in, Out: out, Bytes: bytes, Tick: -5, Seq: -1}}
}

func TestInvoices(t *testing.T) {
	w := play(t, begin(t), sampled(1, 4, 1000, 3), ev(api.EvTick, 10, 0), sampled(1, 4, 65535, 1<<20), sampled(4, 4, 10, 1))
	if s := w.Series[0]; !slices.Equal(s.In, []int{3000, 65535 << 20}) || !slices.Equal(s.Out, []int{0, 0}) {
		t.Error("samples", s)
	}
	if s := w.Series[2]; !slices.Equal(s.In, []int{0, 10}) || !slices.Equal(s.Out, []int{3000, 65535<<20 + 10}) {
		t.Error("samples", s)
	}
	for e, want := range map[int]api.Errno{0: api.ErrArg, 1<<20 + 1: api.ErrArg} {
		refuse(t, w, sampled(5, 1, 10, e), want)
	}
	refuse(t, w, sampled(5, 1, -1, 1), api.ErrArg)
	refuse(t, w, sampled(5, 1, 65536, 1), api.ErrArg)
	refuse(t, w, sampled(5, 1, 10, 1), api.ErrNone)
	refuse(t, w, sampled(1, 5, 10, 1), api.ErrNone)
	top := copies.World(w)
	top.Series[0].In[1] = api.MaxBin - 5
	if x := play(t, top, sampled(1, 4, 10, 1)); x.Series[0].In[1] != api.MaxBin {
		t.Error("beyond a bin", x.Series[0])
	}
	series := w.Series
	w = play(t, w, ev(api.EvTick, 3, 0), ev(api.EvClose, 0, 0))
	a, _ := member.Find(w.Database, 100)
	b, _ := member.Find(w.Database, 200)
	first, _ := invoice.Make(a, 1, tariff, series)
	second, _ := invoice.Make(b, 1, tariff, series)
	if !reflect.DeepEqual(w.Invoices, []api.Invoice{first, second}) || first.Total <= 200 {
		t.Error("Invoices", w.Invoices)
	}
	if !reflect.DeepEqual(w.Months, []api.Month{{Series: series}}) || !reflect.DeepEqual(w.Series, begin(t).Series) || w.Since != 13 {
		t.Error("Months", w.Months, w.Series, w.Since)
	}
	if !slices.Equal(w.Log, []api.Saw{{Kind: api.SawInvoice, Tick: 13, A: 100, B: first.Total}, {Kind: api.SawInvoice, Tick: 13, A: 200, B: second.Total}}) {
		t.Error("Log", w.Log)
	}
	w = play(t, w, ev(api.EvTick, 9, 0), ev(api.EvClose, 0, 0))
	if len(w.Months) != 2 || w.Invoices[2].Month != 2 || len(w.Months[1].Series[0].In) != 1 {
		t.Error("the second month", w.Months)
	}
	w.Tariff.Base = -1
	refuse(t, w, ev(api.EvClose, 0, 0), api.ErrTariff)
}

func TestRun(t *testing.T) {
	l := []api.Event{ev(api.EvUp, 100, 0), ev(api.EvUp, 100, 0), update(1, "10.0.0.0/8"), ev(99, 0, 0), frame(1, 3), ev(api.EvTick, 5, 0)}
	w := begin(t)
	got, n := Run(w, l)
	want := w
	for _, e := range l {
		want, _ = Step(want, e)
	}
	if n != 4 || !reflect.DeepEqual(got, want) || !reflect.DeepEqual(w, begin(t)) {
		t.Error("Run", n)
	}
	long, n := Run(w, slices.Repeat([]api.Event{ev(api.EvTick, 1, 0)}, 401))
	if n != 400 || long.Now != 400 {
		t.Error("Run of a long script", n, long.Now)
	}
	if kinds(got) != "sent arrived" {
		t.Error("Log", kinds(got))
	}
}
