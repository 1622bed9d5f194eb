package blackhole

import (
	"reflect"
	"slices"
	"testing"

	"exchangepoint/addr"
	"exchangepoint/api"
	"exchangepoint/prefix"
)

func at(s string) api.Addr {
	a, _ := addr.Parse(s)
	return a
}

func route(s string, hole bool) api.Route {
	p, e := prefix.Parse(s)
	if e != api.OK {
		panic(s)
	}
	r := api.Route{Prefix: p, From: 100}
	if hole {
		r.Attrs.Communities = []api.Community{{A: 1, B: 1}, {A: 65535, B: 666}}
	}
	return r
}

func TestMatch(t *testing.T) {
	l := []api.Route{route("10.0.0.0/8", false), route("10.0.0.0/16", false), route("10.0.0.1/32", true), route("10.0.0.0/24", false), route("1::/16", true), route("1:1::/32", false)}
	for s, want := range map[string]int{"10.0.0.1": 2, "10.0.0.2": 3, "10.0.1.0": 1, "10.1.0.0": 0, "1::1": 4, "1:1::1": 5, "11.0.0.0": -1, "::a00:1": -1} {
		r, ok := Match(l, at(s))
		if want < 0 && (ok || !reflect.DeepEqual(r, api.Route{})) || want >= 0 && (!ok || !reflect.DeepEqual(r, l[want])) {
			t.Error("Match", s, r, ok)
		}
		if Drops(l, at(s)) != (want == 2 || want == 4) {
			t.Error("Drops", s)
		}
	}
	if got := Without(l); !reflect.DeepEqual(got, []api.Route{l[0], l[1], l[3], l[5]}) {
		t.Error("Without", got)
	}
}

func TestRequested(t *testing.T) {
	held := func(asn int, l ...api.Held) api.RIB { return api.RIB{Peer: api.Peer{ASN: asn}, Held: l} }
	s := api.Server{RIBs: []api.RIB{
		held(100, api.Held{Route: route("10.0.0.0/24", false)}, api.Held{Route: route("10.0.0.1/32", true)}), held(200, api.Held{Route: route("10.0.0.1/32", true), Reason: 13}),
		held(300, api.Held{Route: route("10.0.0.0/25", true), Stale: true}, api.Held{Route: route("10.0.0.1/32", true)}), held(400, api.Held{Route: route("10.0.0.1/32", false)}),
	}}
	for x, want := range map[string][]int{"10.0.0.1": {100, 300}, "10.0.0.2": {300}, "10.0.0.200": nil} {
		if got := Requested(s, at(x)); !slices.Equal(got, want) {
			t.Error("Requested", x, got)
		}
	}
}
