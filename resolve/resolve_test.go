package resolve

import (
	"reflect"
	"testing"

	"exchangepoint/addr"
	"exchangepoint/api"
	"exchangepoint/arp"
	"exchangepoint/ether"
	"exchangepoint/neighbor"
	"exchangepoint/packet"
)

func at(s string) api.Addr {
	a, _ := addr.Parse(s)
	return a
}

var (
	mac1 = api.MAC{2, 0, 0, 0, 0, 1}
	mac2 = api.MAC{2, 0, 0, 0, 0, 2}
	one  = at("192.0.2.1")
	two  = at("192.0.2.2")
	six  = at("2001:db8::2")
)

func request(dst api.MAC, to api.Addr) api.Frame {
	b, _ := arp.Encode(arp.Request(mac1, one, to))
	return api.Frame{Dst: dst, Src: mac1, Type: api.TypeARP, Data: b}
}

func solicit(dst api.MAC, n api.Neighbor) api.Frame {
	p, e := neighbor.Encode(n, at("2001:db8::1"), at("ff02::1"))
	if e != api.OK {
		panic(e)
	}
	b, _ := packet.Encode(p)
	return api.Frame{Dst: dst, Src: mac1, Type: api.TypeIPv6, Data: b}
}

func TestAsks(t *testing.T) {
	ask := api.Neighbor{Kind: 135, Target: six}
	group := ether.Solicited(six)
	for name, x := range map[string]struct {
		f    api.Frame
		want api.Addr
		ok   bool
	}{
		"request":               {request(ether.Broadcast(), two), two, true},
		"request to a group":    {request(group, two), api.Addr{}, false},
		"request to a station":  {request(mac2, two), api.Addr{}, false},
		"no message":            {api.Frame{Dst: ether.Broadcast(), Type: api.TypeARP}, api.Addr{}, false},
		"solicitation":          {solicit(group, ask), six, true},
		"to a station":          {solicit(mac2, ask), api.Addr{}, false},
		"advertisement":         {solicit(group, api.Neighbor{Kind: 136, Target: six}), api.Addr{}, false},
		"no packet":             {api.Frame{Dst: group, Type: api.TypeIPv6}, api.Addr{}, false},
		"type without a packet": {api.Frame{Dst: ether.Broadcast(), Type: api.TypeIPv4}, api.Addr{}, false},
	} {
		if a, ok := Asks(x.f); ok != x.ok || a != x.want {
			t.Error("Asks", name, a, ok)
		}
	}
	f := solicit(group, ask)
	f.Data[7] = 3
	if a, ok := Asks(f); ok || a != (api.Addr{}) {
		t.Error("Asks of a forwarded solicitation", a, ok)
	}
}

func TestDeliver(t *testing.T) {
	rules := []api.Rule{{Port: 1, MACs: []api.MAC{mac1}}, {Port: 2, MACs: []api.MAC{{2, 9}, mac2}}}
	bound := []api.Binding{{Addr: one, MAC: mac1, Port: 1}, {Addr: two, MAC: api.MAC{2, 9}, Port: 2}, {Addr: six, MAC: api.MAC{2, 9}, Port: 2}}
	q := request(ether.Broadcast(), two)
	to, f, v := Deliver(rules, bound, 1, q)
	want := q
	want.Dst = api.MAC{2, 9}
	if to != 2 || v != api.Pass || !reflect.DeepEqual(f, want) {
		t.Error("Deliver of a request", to, f, v)
	}
	if to, f, v := Deliver(rules, bound, 1, solicit(ether.Solicited(six), api.Neighbor{Kind: 135, Target: six})); to != 2 || v != api.Pass || f.Dst != want.Dst {
		t.Error("Deliver of a solicitation", to, f, v)
	}
	x := api.Frame{Dst: mac2, Src: mac1, Type: api.TypeIPv4, Data: []byte{1}}
	if to, f, v := Deliver(rules, bound, 1, x); to != 2 || v != api.Pass || !reflect.DeepEqual(f, x) {
		t.Error("Deliver to a station", to, f, v)
	}
	for name, x := range map[string]api.Frame{"nobody's address": request(ether.Broadcast(), at("192.0.2.3")), "own address": request(ether.Broadcast(), one), "nobody's station": {Dst: api.MAC{4}}, "own station": {Dst: mac1}, "a group": {Dst: api.MAC{1}, Type: api.TypeIPv4}} {
		if to, f, v := Deliver(rules, bound, 1, x); to != 0 || v != api.DropUnknown || !reflect.DeepEqual(f, api.Frame{}) {
			t.Error("Deliver", name, to, f, v)
		}
	}
}
