package wish

import (
	"reflect"
	"slices"
	"testing"

	"exchangepoint/addr"
	"exchangepoint/api"
	"exchangepoint/attribute"
	"exchangepoint/community"
	"exchangepoint/prefix"
)

const own = 64496

func pre(s string) api.Prefix {
	p, e := prefix.Parse(s)
	if e != api.OK {
		panic(s)
	}
	return p
}

// route is a route of 100 with communities.
func route(p, communities string, path ...int) api.Route {
	a := attribute.Empty()
	a.Origin, a.Path = 0, []api.Segment{{ASNs: append([]int{100}, path...)}}
	a.Next, _ = addr.Parse("192.0.2.1")
	var e api.Errno
	a.Communities, a.Large, e = community.Parse(communities)
	if e != api.OK {
		panic(communities)
	}
	return api.Route{Prefix: pre(p), From: 100, Attrs: a}
}

func TestCheck(t *testing.T) {
	var many []int
	var prefer []api.Prefer
	for i := range 65 {
		many = append(many, i+1)
		prefer = append(prefer, api.Prefer{ASN: i + 1, Value: 1000 - i})
	}
	for name, x := range map[string]struct {
		p    api.Policy
		want api.Errno
	}{
		"plain": {api.Policy{ASN: 1}, 0}, "limits": {api.Policy{ASN: api.MaxASN, Hops: 60, Deny: many[:64], Prefer: prefer[:64]}, 0}, "values": {api.Policy{ASN: 1, Prefer: []api.Prefer{{ASN: 1, Value: -1000}, {ASN: api.MaxASN, Value: 1000}}}, 0},
		"ASN 0": {api.Policy{}, 33}, "ASN": {api.Policy{ASN: 1 << 32}, 33}, "hops": {api.Policy{ASN: 1, Hops: 61}, 33}, "hops -1": {api.Policy{ASN: 1, Hops: -1}, 33}, "deny": {api.Policy{ASN: 1, Deny: many}, 33}, "prefer": {api.Policy{ASN: 1, Prefer: prefer}, 33},
		"deny order": {api.Policy{ASN: 1, Deny: []int{2, 1}}, 33}, "deny twice": {api.Policy{ASN: 1, Deny: []int{2, 2}}, 33}, "deny 0": {api.Policy{ASN: 1, Deny: []int{0}}, 33}, "deny great": {api.Policy{ASN: 1, Deny: []int{1 << 32}}, 33},
		"prefer order": {api.Policy{ASN: 1, Prefer: []api.Prefer{{ASN: 2}, {ASN: 2}}}, 33}, "prefer 0": {api.Policy{ASN: 1, Prefer: []api.Prefer{{}}}, 33}, "value": {api.Policy{ASN: 1, Prefer: []api.Prefer{{ASN: 2, Value: 1001}}}, 33}, "value -": {api.Policy{ASN: 1, Prefer: []api.Prefer{{ASN: 2, Value: -1001}}}, 33},
	} {
		if e := Check(x.p); e != x.want {
			t.Error("Check", name, e)
		}
	}
}

func TestPrepends(t *testing.T) {
	for _, x := range []struct {
		communities string
		want        int
	}{{"", 0}, {"64496:101:7", 1}, {"64496:101:7 64496:103:7", 3}, {"64496:103:0", 3}, {"64496:102:7 64496:103:0", 2}, {"64496:101:0 64496:102:0 64496:103:8", 2}, {"64496:100:7 64496:104:7", 0}, {"64497:102:7", 0}} {
		if n := Prepends(own, route("10.0.0.0/8", x.communities).Attrs, 7); n != x.want {
			t.Error("Prepends", x.communities, n)
		}
	}
}

func TestVerdict(t *testing.T) {
	for _, x := range []struct {
		p, communities string
		policy         api.Policy
		want           int
	}{
		{"10.0.0.0/8", "", api.Policy{ASN: 7}, api.Offered}, {"10.0.0.0/8", "65535:65282", api.Policy{ASN: 100}, api.WishSelf}, {"10.0.0.0/8", "0:7 65535:65282", api.Policy{ASN: 7}, api.WishNone},
		{"10.0.0.0/8", "0:7", api.Policy{ASN: 7}, api.WishDenied}, {"10.0.0.0/8", "64496:0:7", api.Policy{ASN: 7}, api.WishDenied}, {"10.0.0.0/8", "0:8 64496:0:9", api.Policy{ASN: 7}, api.Offered}, {"10.0.0.0/8", "0:7 64496:7", api.Policy{ASN: 7}, api.WishDenied}, {"10.0.0.0/8", "64496:0:70000", api.Policy{ASN: 70000}, api.WishDenied}, {"10.0.0.0/8", "0:4464", api.Policy{ASN: 70000}, api.Offered},
		{"10.0.0.0/8", "0:64496", api.Policy{ASN: 7}, api.WishAll}, {"10.0.0.0/8", "64496:0:0", api.Policy{ASN: 7}, api.WishAll}, {"10.0.0.0/8", "0:64496 64496:7", api.Policy{ASN: 7}, api.Offered}, {"10.0.0.0/8", "0:64496 64496:1:7", api.Policy{ASN: 7}, api.Offered}, {"10.0.0.0/8", "64496:0:0 64496:1:7", api.Policy{ASN: 8}, api.WishAll}, {"10.0.0.0/8", "0:64496 64496:7", api.Policy{ASN: 7, No4: true}, api.WishFamily},
		{"10.0.0.0/8", "", api.Policy{ASN: 7, No4: true, Deny: []int{100}}, api.WishFamily}, {"::/0", "", api.Policy{ASN: 7, No4: true}, api.Offered}, {"::/0", "", api.Policy{ASN: 7, No6: true}, api.WishFamily}, {"10.0.0.0/8", "", api.Policy{ASN: 7, No6: true}, api.Offered},
		{"10.0.0.0/8", "65535:666", api.Policy{ASN: 7, Deny: []int{99, 100}}, api.WishImport}, {"10.0.0.0/8", "65535:666", api.Policy{ASN: 7, Hops: 1}, api.WishHole}, {"10.0.0.0/8", "65535:666", api.Policy{ASN: 7, Holes: true}, api.Offered},
		{"10.0.0.0/8", "", api.Policy{ASN: 9, Hops: 1}, api.WishHops}, {"10.0.0.0/8", "", api.Policy{ASN: 7, Hops: 2}, api.Offered}, {"10.0.0.0/8", "64496:101:7", api.Policy{ASN: 7, Hops: 2}, api.WishHops}, {"10.0.0.0/8", "64496:101:8", api.Policy{ASN: 7, Hops: 2}, api.Offered}, {"10.0.0.0/8", "", api.Policy{ASN: 9}, api.WishLoop},
	} {
		r := route(x.p, x.communities, 9)
		if v := Verdict(own, r, x.policy); v != x.want {
			t.Error("Verdict", x.communities, x.policy, v)
		}
		if x.p == "::/0" {
			r.Attrs.Next.V6 = true
		}
		if got, v, e := Export(own, r, x.policy); e != api.OK || v != x.want || v != api.Offered && !reflect.DeepEqual(got, api.Route{}) {
			t.Error("Export", x.communities, x.policy, v, e)
		}
	}
}

func TestStrip(t *testing.T) {
	a := Strip(own, route("10.0.0.0/8", "0:7 0:64496 7:0 64495:1 64496:7 65535:666 1:64496:0 64496:0:0 64496:5:5 64497:1:1").Attrs)
	if s := community.Print(a.Communities, a.Large); s != "7:0 64495:1 65535:666 1:64496:0 64497:1:1" {
		t.Error("Strip", s)
	}
}

func TestExport(t *testing.T) {
	r := route("10.0.0.0/8", "1:1 64496:102:7", 9)
	r.Attrs.Pref, r.Attrs.MED = 50, 3
	got, v, e := Export(own, r, api.Policy{ASN: 7})
	want := route("10.0.0.0/8", "1:1", 9)
	want.Attrs.Path[0].ASNs = []int{100, 100, 100, 9}
	want.Attrs.MED, want.Attrs.OTC = 3, own
	if e != api.OK || v != api.Offered || len(got.Attrs.Large) != 0 {
		t.Error("Export", got, v, e)
	}
	got.Attrs.Large = nil
	if !reflect.DeepEqual(got, want) {
		t.Error("Export", got)
	}
	r.Attrs.OTC = 5
	if got, _, _ := Export(own, r, api.Policy{ASN: 7}); got.Attrs.OTC != 5 {
		t.Error("Export keeps a mark", got)
	}
	long := route("10.0.0.0/8", "64496:101:7", slices.Repeat([]int{9}, 63)...)
	invalid := r
	invalid.Prefix.Len = 3
	from := r
	from.From = 0
	attrs := r
	attrs.Attrs.MED = -2
	for name, x := range map[string]struct {
		own  int
		r    api.Route
		p    api.Policy
		want api.Errno
	}{
		"limit": {own, long, api.Policy{ASN: 7}, api.ErrLimit}, "no limit": {own, long, api.Policy{ASN: 8}, api.OK}, "not offered": {own, long, api.Policy{ASN: 7, No4: true}, api.OK}, "own": {0, r, api.Policy{}, api.ErrArg}, "own great": {1 << 32, r, api.Policy{}, api.ErrArg}, "prefix": {own, invalid, api.Policy{}, api.ErrArg}, "from": {own, from, api.Policy{}, api.ErrArg}, "attributes": {own, attrs, api.Policy{}, api.ErrArg}, "policy": {own, long, api.Policy{}, api.ErrPolicy},
	} {
		got, v, e := Export(x.own, x.r, x.p)
		if e != x.want || e != api.OK && (v != 0 || !reflect.DeepEqual(got, api.Route{})) {
			t.Error("Export", name, v, e)
		}
	}
}

func TestOneMemberAlone(t *testing.T) {
	r := route("10.0.0.0/8", "0:64496 64496:64500")
	for asn, want := range map[int]int{64500: api.Offered, 64501: api.WishAll, 100: api.WishSelf} {
		if v := Verdict(own, r, api.Policy{ASN: asn}); v != want {
			t.Error("Verdict for", asn, v)
		}
	}
}
