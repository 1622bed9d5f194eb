package guard

import (
	"testing"

	"exchangepoint/addr"
	"exchangepoint/api"
	"exchangepoint/arp"
	"exchangepoint/ether"
	"exchangepoint/neighbor"
	"exchangepoint/packet"
	"exchangepoint/prefix"
)

func at(s string) api.Addr {
	a, e := addr.Parse(s)
	if e != api.OK {
		panic(s)
	}
	return a
}

func pre(s string) api.Prefix {
	p, _ := prefix.Parse(s)
	return p
}

var (
	lan4  = pre("192.0.2.0/24")
	lan6  = pre("2001:db8::/64")
	mac   = api.MAC{2, 0, 0, 0, 0, 1}
	other = api.MAC{2, 0, 0, 0, 0, 2}
	own4  = at("192.0.2.1")
	own6  = at("2001:db8::1")
	far6  = at("2001:db8::2")
	rule  = api.Rule{Port: 1, MACs: []api.MAC{{2, 9}, mac}, V4: []api.Addr{own4}, V6: []api.Addr{own6}}
)

func check(t *testing.T, name string, f api.Frame, want int) {
	t.Helper()
	if v := Check(rule, lan4, lan6, f); v != want {
		t.Error(name, v, "not", want)
	}
}

func frame(dst api.MAC, kind int, data []byte) api.Frame {
	return api.Frame{Dst: dst, Src: mac, Type: kind, Data: data}
}

func TestFrames(t *testing.T) {
	f := frame(other, api.TypeIPv4, nil)
	check(t, "a frame", f, api.Pass)
	g := f
	g.Data = make([]byte, 1501)
	g.Src = other
	check(t, "size", g, api.DropSize)
	g.Data = g.Data[:1500]
	g.Dst = api.MAC{1, 0x80, 0xc2, 0, 0, 2}
	check(t, "source", g, api.DropSource)
	g.Src = mac
	g.VLAN = 1
	check(t, "reserved", g, api.DropReserved)
	g.Dst = other
	g.Type = 0x1234
	check(t, "tag", g, api.DropTag)
	g.VLAN = 0
	check(t, "type", g, api.DropType)
	for _, kind := range []int{api.TypeIPv4, api.TypeIPv6} {
		check(t, "a station", frame(other, kind, nil), api.Pass)
		check(t, "broadcast", frame(ether.Broadcast(), kind, nil), api.DropBroadcast)
		check(t, "group", frame(api.MAC{1, 0, 0x5e, 1, 1, 1}, kind, nil), api.DropGroup)
	}
	if !Grouped(frame(ether.Broadcast(), 0, nil)) || Grouped(frame(other, 0, nil)) {
		t.Error("Grouped")
	}
}

func TestARP(t *testing.T) {
	send := func(dst api.MAC, a api.ARP) api.Frame {
		b, _ := arp.Encode(a)
		return frame(dst, api.TypeARP, b)
	}
	all := ether.Broadcast()
	near := at("192.0.2.7")
	check(t, "request", send(all, arp.Request(mac, own4, near)), api.Pass)
	check(t, "request to a station", send(other, arp.Request(mac, own4, near)), api.Pass)
	check(t, "gratuitous reply", send(all, api.ARP{Op: 2, FromMAC: mac, From: own4, To: own4}), api.Pass)
	check(t, "form", frame(all, api.TypeARP, make([]byte, 28)), api.DropForm)
	check(t, "another's MAC", send(all, arp.Request(other, own4, near)), api.DropSender)
	check(t, "own other MAC", send(all, arp.Request(api.MAC{2, 9}, own4, near)), api.DropSender)
	check(t, "another's address", send(all, arp.Request(mac, near, at("10.0.0.1"))), api.DropSender)
	check(t, "outside", send(api.MAC{1}, arp.Request(mac, own4, at("10.0.0.1"))), api.DropTarget)
	check(t, "group", send(api.MAC{1}, arp.Request(mac, own4, near)), api.DropGroup)
}

func discover(dst api.MAC, n api.Neighbor, src, to api.Addr) api.Frame {
	p, e := neighbor.Encode(n, src, to)
	if e != api.OK {
		panic(e)
	}
	b, _ := packet.Encode(p)
	return frame(dst, api.TypeIPv6, b)
}

func TestNeighbor(t *testing.T) {
	nobody := at("::")
	ask := api.Neighbor{Kind: 135, Target: far6, HasLink: true, Link: mac}
	asks := ether.Solicited(far6)
	check(t, "solicitation", discover(asks, ask, own6, far6), api.Pass)
	check(t, "solicitation to a station", discover(other, ask, own6, far6), api.Pass)
	check(t, "solicitation to another group", discover(ether.Solicited(at("::5")), ask, own6, far6), api.DropGroup)
	check(t, "solicitation to all", discover(ether.Broadcast(), ask, own6, far6), api.DropGroup)
	ask.Link = other
	check(t, "another's link", discover(asks, ask, own6, far6), api.DropSender)
	ask = api.Neighbor{Kind: 135, Target: far6}
	check(t, "another's address", discover(asks, ask, far6, far6), api.DropSender)
	check(t, "nobody asks for another's", discover(asks, ask, nobody, far6), api.DropSender)
	ask.Target = own6
	check(t, "nobody asks for its own", discover(ether.Solicited(own6), ask, nobody, own6), api.Pass)
	ask.Target = at("2001:db9::1")
	check(t, "outside", discover(asks, ask, far6, far6), api.DropTarget)
	tell := api.Neighbor{Kind: 136, Flags: 2, Target: own6, HasLink: true, Link: mac}
	check(t, "advertisement", discover(other, tell, own6, far6), api.Pass)
	check(t, "advertisement to a group", discover(ether.Solicited(own6), tell, own6, far6), api.DropGroup)
	check(t, "advertisement of nobody", discover(other, tell, nobody, far6), api.DropSender)
	tell.Target = far6
	check(t, "another's advertisement", discover(other, tell, own6, far6), api.DropSender)
	for _, n := range []api.Neighbor{{Kind: 133}, {Kind: 134}, {Kind: 137, Target: at("fe80::1")}} {
		check(t, "router", discover(ether.Broadcast(), n, far6, far6), api.DropRouter)
	}
	f := discover(asks, api.Neighbor{Kind: 135, Target: far6}, own6, far6)
	f.Data[7] = 254
	check(t, "forwarded", f, api.DropForm)
	b, _ := packet.Encode(api.Packet{Src: own4, Dst: own4, Proto: 58, TTL: 255, Data: []byte{135, 0, 0, 0}})
	check(t, "inside of the other family", frame(other, api.TypeIPv6, b), api.DropForm)
	b, _ = packet.Encode(api.Packet{Src: own6, Dst: far6, Proto: 58, TTL: 255, Data: []byte{132}})
	check(t, "kind 132", frame(ether.Broadcast(), api.TypeIPv6, b), api.DropBroadcast)
	b, _ = packet.Encode(api.Packet{Src: own6, Dst: far6, Proto: 58, TTL: 255})
	check(t, "no data", frame(other, api.TypeIPv6, b), api.Pass)
	b, _ = packet.Encode(api.Packet{Src: own6, Dst: far6, Proto: 17, TTL: 255, Data: []byte{135}})
	check(t, "another protocol", frame(asks, api.TypeIPv6, b), api.DropGroup)
}
