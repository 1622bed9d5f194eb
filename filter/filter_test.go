package filter

import (
	"reflect"
	"slices"
	"testing"

	"exchangepoint/addr"
	"exchangepoint/api"
	"exchangepoint/attribute"
	"exchangepoint/prefix"
)

func pre(s string) api.Prefix {
	p, e := prefix.Parse(s)
	if e != api.OK {
		panic(s)
	}
	return p
}

func at(s string) api.Addr {
	a, e := addr.Parse(s)
	if e != api.OK {
		panic(s)
	}
	return a
}

func base() api.Filter {
	return api.Filter{
		Own: 64496, LANs: []api.Prefix{pre("192.0.2.0/24"), pre("2001:db8::/64")}, Min4: 8, Max4: 24, Min6: 16, Max6: 48, Hole4: 25, Hole6: 64,
		Bogons: []api.Prefix{pre("127.0.0.0/8")}, Private: []api.Span{{From: 64512, To: 65534}}, Free: []int{3356, 174}, Hops: 5,
		Registry: api.Registry{
			Sets:    []api.Set{{Name: "AS-A", ASNs: []int{200}}},
			Objects: []api.Object{{Prefix: pre("0.0.0.0/0"), Max: 28, ASN: 100}, {Prefix: pre("0.0.0.0/0"), Max: 24, ASN: 200}, {Prefix: pre("::/0"), Max: 48, ASN: 100}, {Prefix: pre("0.0.0.0/0"), Max: 24, ASN: 64496}},
		},
		Origins: []api.Object{{Prefix: pre("10.0.0.0/8"), Max: 16, ASN: 100}, {Prefix: pre("10.0.0.0/8"), Max: 16, ASN: 64496}},
	}
}

func peer() api.Peer {
	return api.Peer{ASN: 100, Set: "AS-A", Max4: 10, Max6: 10, Nexts: []api.Addr{at("192.0.2.1"), at("2001:db8::1")}}
}

func route(p string, path ...int) api.Route {
	a := attribute.Empty()
	a.Origin, a.Path, a.Next = 0, []api.Segment{{ASNs: path}}, at("192.0.2.1")
	r := api.Route{Prefix: pre(p), From: 100, Attrs: a}
	if r.Prefix.Addr.V6 {
		r.Attrs.Next = at("2001:db8::1")
	}
	return r
}

func hole(r api.Route) api.Route {
	r.Attrs.Communities = []api.Community{{A: 65535, B: 666}}
	return r
}

func TestValid(t *testing.T) {
	if !Valid(base()) {
		t.Error("a valid filter")
	}
	for name, change := range map[string]func(f *api.Filter){
		"own": func(f *api.Filter) { f.Own = 0 }, "own great": func(f *api.Filter) { f.Own = 1 << 32 }, "LANs": func(f *api.Filter) { f.LANs = slices.Repeat(f.LANs, 5) }, "LAN": func(f *api.Filter) { f.LANs[0].Len = 3 }, "bogons": func(f *api.Filter) { f.Bogons = slices.Repeat(f.Bogons, 65) }, "bogon": func(f *api.Filter) { f.Bogons[0].Len = 3 },
		"private": func(f *api.Filter) { f.Private = slices.Repeat(f.Private, 65) }, "span": func(f *api.Filter) { f.Private[0].From = 65535 }, "span -1": func(f *api.Filter) { f.Private[0].From = -1 }, "span great": func(f *api.Filter) { f.Private[0].To = 1 << 32 }, "free": func(f *api.Filter) { f.Free = slices.Repeat(f.Free, 33) }, "free 0": func(f *api.Filter) { f.Free[0] = 0 },
		"min4": func(f *api.Filter) { f.Min4 = 25 }, "min4 -1": func(f *api.Filter) { f.Min4 = -1 }, "max4": func(f *api.Filter) { f.Max4 = 33 }, "min6": func(f *api.Filter) { f.Min6 = 49 }, "min6 -1": func(f *api.Filter) { f.Min6 = -1 }, "max6": func(f *api.Filter) { f.Max6 = 129 }, "hole4": func(f *api.Filter) { f.Hole4 = 33 }, "hole4 -1": func(f *api.Filter) { f.Hole4 = -1 }, "hole6": func(f *api.Filter) { f.Hole6 = 129 }, "hole6 -1": func(f *api.Filter) { f.Hole6 = -1 },
		"hops": func(f *api.Filter) { f.Hops = 61 }, "hops 0": func(f *api.Filter) { f.Hops = 0 }, "registry": func(f *api.Filter) { f.Registry.Sets[0].Name = "" }, "origins": func(f *api.Filter) { f.Origins = slices.Repeat(f.Origins, 257) }, "origin": func(f *api.Filter) { f.Origins[0].Prefix.Len = 3 }, "origin Max": func(f *api.Filter) { f.Origins[0].Max = 7 }, "origin Max great": func(f *api.Filter) { f.Origins[0].Max = 33 }, "origin ASN": func(f *api.Filter) { f.Origins[0].ASN = -1 },
	} {
		f := base()
		change(&f)
		if Valid(f) {
			t.Error("Valid", name)
		}
	}
	f := base()
	f.LANs, f.Bogons, f.Private, f.Free = slices.Repeat(f.LANs, 4), slices.Repeat(f.Bogons, 64), slices.Repeat(f.Private, 64), slices.Repeat(f.Free, 32)
	f.Origins = slices.Repeat(f.Origins, 256)
	f.Origins[0].ASN, f.Hops, f.Min4, f.Max4, f.Hole6 = 0, 60, 32, 32, 128
	if !Valid(f) {
		t.Error("a filter at the limits")
	}
}

func TestValidPeer(t *testing.T) {
	p := peer()
	p.Max4, p.Max6, p.Nexts, p.Set = 256, 0, slices.Repeat(p.Nexts, 4), "a b"
	if !ValidPeer(peer()) || !ValidPeer(p) {
		t.Error("valid peers")
	}
	for name, change := range map[string]func(p *api.Peer){
		"ASN": func(p *api.Peer) { p.ASN = 0 }, "ASN great": func(p *api.Peer) { p.ASN = 1 << 32 }, "Max4": func(p *api.Peer) { p.Max4 = 257 }, "Max4 -1": func(p *api.Peer) { p.Max4 = -1 }, "Max6": func(p *api.Peer) { p.Max6 = 257 }, "Max6 -1": func(p *api.Peer) { p.Max6 = -1 }, "nexts": func(p *api.Peer) { p.Nexts = slices.Repeat(p.Nexts, 5) }, "next": func(p *api.Peer) { p.Nexts[0] = api.Addr{Hi: 1} },
	} {
		p := peer()
		change(&p)
		if ValidPeer(p) {
			t.Error("ValidPeer", name)
		}
	}
}

func TestHoleAndWiden(t *testing.T) {
	if !Hole(hole(route("10.0.0.0/8", 100)).Attrs) || Hole(route("10.0.0.0/8", 100).Attrs) || Hole(api.Attrs{Communities: []api.Community{{A: 666, B: 65535}}}) {
		t.Error("Hole")
	}
	l := Widen([]api.Object{{Prefix: pre("10.0.0.0/8"), Max: 8, ASN: 1}, {Prefix: pre("::/0"), Max: 8, ASN: 2}})
	if !reflect.DeepEqual(l, []api.Object{{Prefix: pre("10.0.0.0/8"), Max: 32, ASN: 1}, {Prefix: pre("::/0"), Max: 128, ASN: 2}}) {
		t.Error("Widen", l)
	}
}

func changed(r api.Route, change func(r *api.Route)) api.Route {
	change(&r)
	return r
}

func TestCheck(t *testing.T) {
	good := route("10.0.0.0/16", 100)
	set := []api.Segment{{ASNs: []int{100}}, {Set: true, ASNs: []int{7}}}
	for name, x := range map[string]struct {
		r    api.Route
		want []int
	}{
		"good": {good, nil}, "good with V6": {route("2001::/32", 100), nil}, "a customer": {route("11.0.0.0/24", 100, 200), nil}, "five hops": {route("11.0.0.0/24", 100, 1, 2, 3, 200), nil},
		"prefix": {changed(good, func(r *api.Route) { r.Prefix.Len = 3 }), []int{1}}, "attributes": {changed(good, func(r *api.Route) { r.Attrs.MED = -2 }), []int{1}}, "origin": {changed(good, func(r *api.Route) { r.Attrs.Origin = -1 }), []int{1}}, "no path": {changed(good, func(r *api.Route) { r.Attrs.Path = nil }), []int{1}}, "no next": {changed(good, func(r *api.Route) { r.Attrs.Next = api.Addr{} }), []int{1}}, "next of another family": {changed(good, func(r *api.Route) { r.Attrs.Next = at("2001:db8::1") }), []int{1}},
		"first": {route("10.0.0.0/16", 101, 100), []int{2}}, "next": {changed(good, func(r *api.Route) { r.Attrs.Next = at("192.0.2.2") }), []int{3}}, "six hops": {route("11.0.0.0/24", 100, 1, 2, 3, 4, 200), []int{4}}, "loop": {route("10.0.0.0/16", 100, 64496, 100), []int{5}},
		"set": {changed(good, func(r *api.Route) { r.Attrs.Path = set }), []int{6, 13, 14}}, "set at first": {changed(good, func(r *api.Route) { r.Attrs.Path = []api.Segment{set[1], set[0]} }), []int{2, 6}}, "private": {route("10.0.0.0/16", 100, 64512, 100), []int{7}}, "private last": {route("10.0.0.0/16", 100, 65534, 100), []int{7}}, "public": {route("10.0.0.0/16", 100, 65535, 100), nil},
		"free": {route("10.0.0.0/16", 100, 174, 100), []int{8}}, "mark": {changed(good, func(r *api.Route) { r.Attrs.OTC = 100 }), []int{9}}, "LAN": {route("192.0.2.0/24", 100), []int{10}}, "part of a LAN": {hole(route("192.0.2.1/32", 100)), []int{10}}, "around a LAN": {route("192.0.0.0/16", 100), []int{10}},
		"bogon": {route("127.0.0.0/8", 100), []int{11}}, "part of a bogon": {route("127.1.0.0/16", 100), []int{11}}, "around a bogon": {changed(route("126.0.0.0/8", 100), func(r *api.Route) { r.Prefix = pre("112.0.0.0/8") }), nil},
		"short": {route("12.0.0.0/7", 100), []int{12}}, "long": {route("11.0.0.0/25", 100), []int{12}}, "long in the registry": {route("11.0.0.0/29", 100), []int{12, 13}}, "short with V6": {route("2004::/15", 100), []int{12}}, "long with V6": {route("2001::/49", 100), []int{12, 13}},
		"hole": {hole(route("10.0.0.1/32", 100)), nil}, "short hole": {hole(route("10.0.0.0/24", 100)), []int{12}}, "hole at the limit": {hole(route("11.0.0.0/25", 100)), nil}, "hole with V6": {hole(route("2001::1/128", 100)), nil}, "short hole with V6": {hole(route("2001::/63", 100)), []int{12}}, "no hole": {route("10.0.0.1/32", 100), []int{12, 13, 14}},
		"registry": {route("11.0.0.0/16", 100, 300), []int{13}}, "long for the registry": {route("11.0.0.0/25", 100, 200), []int{12, 13}}, "origins": {route("10.0.0.0/16", 100, 200), []int{14}}, "long for the origins": {route("10.0.0.0/17", 100), []int{14}}, "hole of another origin": {hole(route("10.0.0.1/32", 100, 200)), []int{14}},
		"everything": {changed(route("126.0.0.0/7", 101, 1, 2, 3, 64496, 64512, 174), func(r *api.Route) {
			r.Attrs.Next, r.Attrs.OTC = at("192.0.2.9"), 5
			r.Attrs.Path = append(r.Attrs.Path, set[1])
		}), []int{2, 3, 4, 5, 6, 7, 8, 9, 12, 13}},
	} {
		got := All(base(), peer(), x.r)
		if !slices.Equal(got, x.want) {
			t.Error("All", name, got, x.want)
		}
		want := api.Accepted
		if len(x.want) > 0 {
			want = x.want[0]
		}
		if n := Check(base(), peer(), x.r); n != want {
			t.Error("Check", name, n)
		}
	}
}

func TestFreePeer(t *testing.T) {
	f, p := base(), peer()
	f.Free = []int{100, 174}
	if n := Check(f, p, route("10.0.0.0/16", 100, 174, 100)); n != api.Accepted {
		t.Error("a peer that is free of providers itself", n)
	}
	f.Free = []int{100}
	p.ASN = 200
	if n := Check(f, p, route("11.0.0.0/16", 200, 100, 200)); n != api.RejFree {
		t.Error("a free network behind another one", n)
	}
	p = peer()
	p.Set = "none"
	if n := Check(base(), p, route("10.0.0.0/16", 100)); n != api.RejRegistry {
		t.Error("a set that is not known", n)
	}
	p.Set = ""
	if n := Check(base(), p, route("11.0.0.0/16", 100, 200)); n != api.RejRegistry {
		t.Error("no set", n)
	}
}
