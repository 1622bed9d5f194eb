package purity

import (
	"reflect"
	"slices"

	"exchangepoint/addr"
	"exchangepoint/api"
	"exchangepoint/arp"
	"exchangepoint/aspath"
	"exchangepoint/attribute"
	"exchangepoint/community"
	"exchangepoint/compile"
	"exchangepoint/delta"
	"exchangepoint/drain"
	"exchangepoint/ether"
	"exchangepoint/member"
	"exchangepoint/neighbor"
	"exchangepoint/packet"
	"exchangepoint/pattern"
	"exchangepoint/prefix"
	"exchangepoint/ribin"
	"exchangepoint/session"
	"exchangepoint/update"
	"exchangepoint/world"
)

const text = `lan 192.0.2.0/24 2001:db8::/64
server 64496 rs - 0 0
port 9 0 10 02:00:00:00:00:09 192.0.2.9 -
member 100 a SA 3 2
port 1 0 10 02:00:00:00:00:01 192.0.2.1 2001:db8::1
member 200 b - 3 2
port 2 1 10 02:00:00:00:00:02,02:00:00:00:00:22 192.0.2.2 2001:db8::2
member 300 c - 3 2
port 3 2 10 02:00:00:00:00:03 192.0.2.3 -
`

func at(s string) api.Addr {
	a, e := addr.Parse(s)
	must(e)
	return a
}

func pre(s string) api.Prefix {
	p, e := prefix.Parse(s)
	must(e)
	return p
}

func must(e api.Errno) {
	if e != api.OK {
		panic(e)
	}
}

func database() api.Database {
	d, e := member.Parse(text)
	must(e)
	return d
}

func ring() api.Fabric {
	f := api.Fabric{Switches: 4, Down: make([]bool, 5), Dead: make([]bool, 4)}
	for i := range 5 {
		f.Links = append(f.Links, api.Link{A: i % 4, B: (i + 1) % 4, Capacity: 10})
	}
	return f
}

func attrs(n, hops int, communities string) api.Attrs {
	a := attribute.Empty()
	a.Origin, a.Path, a.Next = 0, []api.Segment{{ASNs: slices.Repeat([]int{n}, hops)}}, at("192.0.2.1")
	a.Communities, a.Large, _ = community.Parse(communities)
	return a
}

func announce(n, hops int, communities string, l ...string) api.Update {
	u := api.Update{Attrs: attrs(n, hops, communities)}
	u.Attrs.Next.Lo += uint64(n/100 - 1)
	for _, s := range l {
		u.Announce = append(u.Announce, pre(s))
	}
	return u
}

func server() api.Server {
	s := api.Server{Filter: api.Filter{Own: 64496, LANs: []api.Prefix{pre("192.0.2.0/24")}, Bogons: []api.Prefix{pre("127.0.0.0/8")}, Private: []api.Span{{From: 64512, To: 65534}}, Free: []int{174}, Max4: 24, Max6: 48, Hops: 20, Hole4: 25, Hole6: 64}}
	s.Filter.Registry.Sets = []api.Set{{Name: "SA", ASNs: []int{5}, Sets: []string{"SB"}}}
	s.Filter.Origins = []api.Object{{Prefix: pre("10.0.0.0/8"), Max: 24, ASN: 100}}
	for i, n := range []int{100, 200, 300} {
		s.Filter.Registry.Objects = append(s.Filter.Registry.Objects, api.Object{Prefix: pre("0.0.0.0/0"), Max: 24, ASN: n})
		s.Policies = append(s.Policies, api.Policy{ASN: n, Deny: []int{7}, Prefer: []api.Prefer{{ASN: 200, Value: 1}}})
		p := api.Peer{ASN: n, Max4: 3, Max6: 2, Nexts: []api.Addr{at("192.0.2.1")}}
		p.Nexts[0].Lo += uint64(i)
		if i < 2 {
			p.Nexts = append(p.Nexts, api.Addr{V6: true, Hi: 0x20010db8 << 32, Lo: uint64(i + 1)})
		}
		if i == 0 {
			p.Set = "SA"
		}
		s.RIBs = append(s.RIBs, ribin.New(p))
	}
	return s
}

func events() []api.Event {
	frame := api.Frame{Dst: api.MAC{2, 0, 0, 0, 0, 2}, Src: api.MAC{2, 0, 0, 0, 0, 1}, Type: api.TypeIPv4, Data: []byte{1, 2}}
	ask, _ := arp.Encode(arp.Request(frame.Src, at("192.0.2.1"), at("192.0.2.2")))
	return []api.Event{
		{Kind: api.EvUp, A: 100}, {Kind: api.EvUp, A: 200}, {Kind: api.EvUp, A: 300}, {Kind: api.EvUpdate, A: 100, Update: announce(100, 2, "1:1 64496:101:0", "10.0.0.0/16", "11.0.0.0/25")}, {Kind: api.EvUpdate, A: 200, Update: announce(200, 1, "65535:666", "12.0.0.0/8")},
		{Kind: api.EvFrame, A: 1, Frame: frame}, {Kind: api.EvFrame, A: 1, Frame: api.Frame{Dst: ether.Broadcast(), Src: frame.Src, Type: api.TypeARP, Data: ask}}, {Kind: api.EvSample, A: 9, Sample: api.Sample{In: 1, Out: 2, Bytes: 99}}, {Kind: api.EvClose}, {Kind: api.EvStep}, {Kind: api.EvTick, A: 1},
		{Kind: api.EvDown, A: 300, B: 5}, {Kind: api.EvDown, A: 100, B: 9}, {Kind: api.EvFail, A: 2}, {Kind: api.EvSwap}, {Kind: api.EvPolicy, A: 200, Policy: api.Policy{ASN: 200, Hops: 3}}, {Kind: api.EvFrame, A: 1, Frame: frame},
	}
}

func worlds() []any {
	w, e := world.Begin(database(), ring(), server(), api.Tariff{Base: 100, Included: 1, Rate: 2}, drain.Steps([][]api.Item{{{Index: 0}}, {{Switch: true, Index: 3}}}))
	must(e)
	out := []any{w}
	for _, e := range events() {
		var errno api.Errno
		w, errno = world.Step(w, e)
		must(errno)
	}
	return append(out, w)
}

func frames() []any {
	n, e := neighbor.Encode(api.Neighbor{Kind: 135, Target: at("2001:db8::2"), HasLink: true, Link: api.MAC{2, 0, 0, 0, 0, 1}}, at("2001:db8::1"), at("ff02::1"))
	must(e)
	b, e := packet.Encode(n)
	must(e)
	f := api.Frame{Dst: ether.Solicited(at("2001:db8::2")), Src: api.MAC{2, 0, 0, 0, 0, 1}, Type: api.TypeIPv6, Data: b}
	raw, e := ether.Encode(f)
	must(e)
	out := []any{n, f, b, raw}
	for _, e := range events() {
		if e.Kind == api.EvFrame {
			out = append(out, e.Frame)
		}
	}
	return out
}

func messages() []any {
	u := announce(100, 2, "1:1 65535:666 64496:101:0", "10.0.0.0/8", "11.0.0.0/16")
	u.Withdraw = []api.Prefix{pre("12.0.0.0/8"), pre("1::/16")}
	body, e := update.Encode(u)
	must(e)
	m := api.Message{Type: api.MsgUpdate, Body: body}
	raw, e := update.Frame(m)
	must(e)
	a := attrs(100, 3, "1:1 1:1:1")
	a.MED, a.OTC, a.Other = 5, 7, []api.Unknown{{Flags: 224, Type: 99, Data: []byte{1}}}
	l, e := attribute.Write(a)
	must(e)
	bytes, e := attribute.Join(l)
	must(e)
	mine := api.Open{ASN: 64496, ID: 1, Hold: 9, Role: api.RoleServer, Grace: 60}
	theirs := api.Open{ASN: 100, ID: 2, Hold: 30, Role: api.RoleClient, Grace: 30, Again: true}
	open, e := session.Encode(theirs)
	must(e)
	s, _, e := session.Start(api.Session{Mine: mine, ASN: 100}, 3)
	must(e)
	confirm, _, e := session.Receive(s, api.Message{Type: api.MsgOpen, Body: open}, 5)
	must(e)
	up, _, e := session.Receive(confirm, api.Message{Type: api.MsgKeepalive}, 6)
	must(e)
	return []any{u, body, m, raw, a, l, bytes, mine, theirs, open, api.Message{Type: api.MsgOpen, Body: open}, api.Message{Type: api.MsgKeepalive}, session.Notify(1), api.Session{Mine: mine, ASN: 100}, s, confirm, up, []byte{0, 0, 0, 0}}
}

func texts() []any {
	return []any{text, "", "192.0.2.1", "::ffff:1.2.3.4", "2001:db8::1", "10.0.0.0/8", "10.1.0.0/8", "02:00:00:00:00:01", "65001 65002 {7,9}", "65001 .* 65010-65019", "(1|2 3)+", "65000:1 65535:666 65000:1:2", "64500 2 12 0", "SA"}
}

func parts() []any {
	d := database()
	rules, _ := compile.Rules(d, 4, 16)
	node, _ := pattern.Parse("(1|2 3)+ .* 7-9?")
	path, _ := aspath.Parse("65001 65002 {7,9} 5")
	resources := api.Resources{Addrs: []api.Range{{From: at("10.0.0.0"), To: at("10.0.0.255")}, {From: at("1::"), To: at("2::")}}, ASNs: []api.Span{{From: 5, To: 9}, {From: 11, To: 20}}}
	samples := []api.Sample{{Tick: 1, Seq: 1, Pool: 10, In: 1, Out: 2, Bytes: 100}, {Tick: 2, Seq: 3, Pool: 30, In: 2, Out: 1, Bytes: 50}}
	cells := []api.Cell{{From: 100, To: 200, Samples: 2, Bytes: 300}, {From: 200, To: 100, Samples: 1, Bytes: 50}}
	series := api.Series{Port: 1, Seconds: 300, In: []int{1, -1, 3}, Out: []int{4, -1, 6}}
	v := api.Invoice{Member: 100, Month: 1, Version: 1, Lines: []api.Line{{Port: 1, Used: 5, Amount: 100}}, Total: 100}
	return []any{
		d, rules, compile.Bindings(d), d.Members, node, path, ring(), resources, samples, cells, series, []api.Series{series}, v, []api.Invoice{v}, api.MAC{2, 0, 0, 0, 0, 1}, ether.Broadcast(), pre("10.0.0.0/8"), pre("192.0.2.0/24"), pre("2001:db8::/64"), at("192.0.2.1"), at("2001:db8::1"), api.Tariff{Base: 5, Rate: 3},
		api.ARP{Op: 1, FromMAC: api.MAC{2}, From: at("192.0.2.1"), To: at("192.0.2.2")}, api.Neighbor{Kind: 135, Target: at("fe80::1")}, api.Bucket{Level: 3, Rate: 1, Burst: 5}, []api.Entry{{Prefix: pre("10.0.0.0/8"), Value: 1}, {Prefix: pre("10.0.0.0/9"), Value: 1}, {Prefix: pre("10.128.0.0/9"), Value: 1}},
		[]api.Cert{{Key: 1, Issuer: 1, Until: 9, Resources: resources}, {Key: 2, Issuer: 1, Until: 9, Resources: resources}}, []int{1}, api.Signed{Key: 2, ASN: 7, Until: 9, Objects: []api.Object{{Prefix: pre("10.0.0.0/24"), Max: 24, ASN: 7}}}, []api.Hop{{From: 1, To: 2, Role: 3}, {From: 2, To: 3, Role: 0}},
		[]api.Load{{A: 0, B: 1, Rate: 100}, {A: 1, B: 2, Rate: 20000}}, []int{1, 0}, []api.Item{{Index: 1}, {Switch: true, Index: 2}}, [][]api.Item{{{Index: 1}}, {{Index: 2}}}, []api.Shed{{Items: []api.Item{{Index: 1}}, Loads: []int{1}}}, [][]int{{0, 1}, {2}}, api.Why{From: 1, Kind: 2, Code: 3},
	}
}

// routing returns what the layers of the route server work on.
func routing() []any {
	c, e := delta.Begin(server())
	must(e)
	out := []any{server(), c}
	records := []api.Record{{Kind: api.LogUp, Member: 100}, {Kind: api.LogUp, Member: 200}, {Kind: api.LogUpdate, Member: 100, Update: announce(100, 2, "1:1", "10.0.0.0/16", "11.0.0.0/25")}, {Kind: api.LogUpdate, Member: 200, Update: announce(200, 1, "65535:666 1:1:1", "12.0.0.0/8", "10.0.0.0/16")}, {Kind: api.LogUp, Member: 300}, {Kind: api.LogDown, Member: 100, Tick: 5, Grace: 9}}
	var changes []api.Change
	for _, r := range records {
		var l []api.Change
		c, l, e = delta.Apply(c, r)
		must(e)
		changes = append(changes, l...)
		out = append(out, c, r)
	}
	changes = slices.CompactFunc(changes, func(a, b api.Change) bool { return a.Prefix == b.Prefix })[:1]
	out = append(out, c.Server, c.Server.Filter, records, changes, api.Queue{Pending: changes, Bucket: api.Bucket{Level: 1, Rate: 1, Burst: 2}}, c.Offers[2], c.Offers[2][0])
	for i, b := range c.Server.RIBs {
		out = append(out, b, b.Peer, c.Server.Policies[i])
	}
	return out
}

// seeds returns valid values by their types, with everything that they contain.
func seeds() map[reflect.Type][]reflect.Value {
	out := map[reflect.Type][]reflect.Value{}
	for _, l := range [][]any{worlds(), frames(), messages(), texts(), parts(), routing(), {events()}} {
		for _, x := range l {
			keep(out, reflect.ValueOf(x), 0)
		}
	}
	return out
}

func keep(out map[reflect.Type][]reflect.Value, v reflect.Value, depth int) {
	t := v.Type()
	if depth > 0 && (len(out[t]) > 40 || t.Kind() == reflect.Int || t.Kind() == reflect.Bool || t.Kind() == reflect.Uint8) {
		return
	}
	out[t] = append(out[t], v)
	switch t.Kind() {
	case reflect.Struct:
		for i := range v.NumField() {
			keep(out, v.Field(i), depth+1)
		}
	case reflect.Slice:
		for i := range min(v.Len(), 3) {
			keep(out, v.Index(i), depth+1)
		}
	}
}
