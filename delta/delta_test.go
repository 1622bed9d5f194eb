package delta

import (
	"math/rand"
	"reflect"
	"slices"
	"testing"

	"exchangepoint/api"
	"exchangepoint/attribute"
	"exchangepoint/community"
	"exchangepoint/offers"
	"exchangepoint/prefix"
	"exchangepoint/ribin"
	"exchangepoint/same"
)

const own = 64496

func pre(s string) api.Prefix {
	p, e := prefix.Parse(s)
	if e != api.OK {
		panic(s)
	}
	return p
}

// server has members with the AS numbers 100, 200, 300 that may announce everything; their sessions are down.
func server() api.Server {
	s := api.Server{Filter: api.Filter{Own: own, Max4: 24, Max6: 48, Hops: 60, Hole4: 25, Hole6: 64}}
	for _, n := range []int{100, 200, 300} {
		s.Filter.Registry.Objects = append(s.Filter.Registry.Objects, api.Object{Prefix: pre("0.0.0.0/0"), Max: 24, ASN: n})
		s.Policies = append(s.Policies, api.Policy{ASN: n})
		s.RIBs = append(s.RIBs, ribin.New(api.Peer{ASN: n, Max4: 3, Max6: 3, Nexts: []api.Addr{{Lo: uint64(n)}}}))
	}
	return s
}

func announce(n, hops int, communities string, l ...string) api.Record {
	a := attribute.Empty()
	a.Origin, a.Path, a.Next = 0, []api.Segment{{ASNs: slices.Repeat([]int{n}, hops)}}, api.Addr{Lo: uint64(n)}
	a.Communities, a.Large, _ = community.Parse(communities)
	u := api.Update{Attrs: a}
	for _, p := range l {
		u.Announce = append(u.Announce, pre(p))
	}
	return api.Record{Kind: api.LogUpdate, Member: n, Update: u}
}

func withdraw(n int, l ...string) api.Record {
	u := api.Update{Attrs: attribute.Empty()}
	for _, p := range l {
		u.Withdraw = append(u.Withdraw, pre(p))
	}
	return api.Record{Kind: api.LogUpdate, Member: n, Update: u}
}

func TestBegin(t *testing.T) {
	if c, e := Begin(server()); e != api.OK || len(c.Offers) != 3 || !reflect.DeepEqual(c.Server, server()) {
		t.Error("Begin", c, e)
	}
	bad := server()
	bad.Filter.Own = 0
	if c, e := Begin(bad); e != api.ErrArg || !reflect.DeepEqual(c, api.Cache{}) {
		t.Error("Begin of an invalid server", e)
	}
}

// apply carries out records, and returns the changes of the last one.
func apply(t *testing.T, c api.Cache, l ...api.Record) (api.Cache, []api.Change) {
	t.Helper()
	var changes []api.Change
	for _, r := range l {
		var e api.Errno
		if c, changes, e = Apply(c, r); e != api.OK {
			t.Fatal(r, e)
		}
	}
	return c, changes
}

func all(t *testing.T) api.Cache {
	t.Helper()
	c, _ := Begin(server())
	for _, n := range []int{100, 200, 300} {
		c, _ = apply(t, c, api.Record{Kind: api.LogUp, Member: n})
	}
	return c
}

func to(l []api.Change) []int {
	var out []int
	for _, c := range l {
		if c.Has {
			out = append(out, c.To)
		} else {
			out = append(out, -c.To)
		}
	}
	return out
}

func TestApply(t *testing.T) {
	c := all(t)
	for i, x := range []struct {
		r    api.Record
		want []int
	}{
		{announce(100, 2, "", "10.0.0.0/16"), []int{200, 300}}, {announce(100, 2, "", "10.0.0.0/16"), nil}, {announce(200, 1, "", "10.0.0.0/16"), []int{100, 300}}, {announce(200, 1, "0:100", "10.0.0.0/16"), []int{-100}}, {withdraw(200, "10.0.0.0/16", "11.0.0.0/8"), []int{300}},
		{announce(300, 1, "", "11.0.0.0/8", "12.0.0.0/8"), []int{100, 100, 200, 200}}, {api.Record{Kind: api.LogPolicy, Member: 200, Policy: api.Policy{ASN: 200, Deny: []int{300}}}, []int{-200, -200}}, {api.Record{Kind: api.LogDown, Member: 100, Tick: 5, Grace: 9}, []int{-100, -100}}, {api.Record{Kind: api.LogSweep, Member: 100, Grace: 1}, nil}, {api.Record{Kind: api.LogSweep, Member: 100, Grace: 2}, []int{-200, -300}}, {api.Record{Kind: api.LogUp, Member: 100}, []int{100, 100}}, {api.Record{Kind: api.LogDown, Member: 300}, []int{-100, -100}},
	} {
		var changes []api.Change
		c, changes = apply(t, c, x.r)
		if !slices.Equal(to(changes), x.want) {
			t.Error("Apply", i, to(changes), x.want)
		}
	}
}

func TestApplyErrors(t *testing.T) {
	c := all(t)
	for name, x := range map[string]struct {
		r    api.Record
		want api.Errno
	}{
		"member": {api.Record{Kind: 9, Member: 400}, api.ErrMember}, "kind": {api.Record{Kind: 6, Member: 100}, api.ErrArg}, "kind 0": {api.Record{Member: 100}, api.ErrArg}, "policy": {api.Record{Kind: api.LogPolicy, Member: 100}, api.ErrPolicy}, "another's policy": {api.Record{Kind: api.LogPolicy, Member: 100, Policy: api.Policy{ASN: 200}}, api.ErrPolicy},
		"up": {api.Record{Kind: api.LogUp, Member: 100}, api.ErrState}, "update": {api.Record{Kind: api.LogUpdate, Member: 100}, api.ErrArg}, "many": {announce(100, 1, "", "10.0.0.0/8", "11.0.0.0/8", "12.0.0.0/8", "13.0.0.0/8"), api.ErrMany}, "grace": {api.Record{Kind: api.LogDown, Member: 100, Grace: -1}, api.ErrArg},
	} {
		if got, l, e := Apply(c, x.r); e != x.want || len(l) > 0 || !reflect.DeepEqual(got, api.Cache{}) {
			t.Error("Apply", name, e)
		}
	}
}

func routes(l ...api.Record) []api.Route {
	var out []api.Route
	for _, r := range l {
		out = append(out, api.Route{Prefix: r.Update.Announce[0], From: r.Member, Attrs: r.Update.Attrs})
	}
	return out
}

func TestDiffAndPlay(t *testing.T) {
	a := routes(announce(100, 1, "", "10.0.0.0/8"), announce(100, 1, "", "11.0.0.0/8"), announce(100, 1, "", "12.0.0.0/8"))
	b := routes(announce(100, 1, "", "9.0.0.0/8"), announce(100, 1, "", "11.0.0.0/8"), announce(100, 2, "", "12.0.0.0/8"), announce(200, 1, "", "13.0.0.0/8"))
	b[1].Attrs.Communities = []api.Community{}
	l := Diff(7, a, b)
	want := []api.Change{{To: 7, Prefix: b[0].Prefix, Has: true, Route: b[0]}, {To: 7, Prefix: a[0].Prefix}, {To: 7, Prefix: b[2].Prefix, Has: true, Route: b[2]}, {To: 7, Prefix: b[3].Prefix, Has: true, Route: b[3]}}
	if !reflect.DeepEqual(l, want) {
		t.Error("Diff", l)
	}
	if got := Play(a, l); !same.Routes(got, b) {
		t.Error("Play", got)
	}
	if got := Play(a, Diff(1, a, nil)); len(got) != 0 || len(Diff(1, a, a)) != 0 {
		t.Error("Diff to nothing", got)
	}
	p := a[0].Prefix
	if got := Play(nil, []api.Change{{Prefix: p, Has: true, Route: a[0]}, {Prefix: p, Has: true, Route: b[0]}, {Prefix: a[1].Prefix, Has: true, Route: a[1]}, {Prefix: a[1].Prefix}}); !same.Routes(got, b[:1]) {
		t.Error("Play: the last one counts", got)
	}
	if got := Play(a[2:], []api.Change{{Prefix: a[1].Prefix, Has: true, Route: a[1]}, {Prefix: p, Has: true, Route: a[0]}}); !same.Routes(got, a) {
		t.Error("Play in order", got)
	}
}

func random(r *rand.Rand) api.Record {
	n := 100 * (1 + r.Intn(3))
	prefixes := []string{"10.0.0.0/16", "10.1.0.0/16", "11.0.0.0/8", "12.0.0.0/25"}
	switch r.Intn(8) {
	case 0:
		return api.Record{Kind: api.LogUp, Member: n}
	case 1:
		return api.Record{Kind: api.LogDown, Member: n, Tick: r.Intn(100), Grace: r.Intn(2) * 50}
	case 2:
		return api.Record{Kind: api.LogSweep, Member: n, Grace: r.Intn(3)}
	case 3:
		return api.Record{Kind: api.LogPolicy, Member: n, Policy: api.Policy{ASN: n, Hops: r.Intn(4), No4: r.Intn(5) == 0, Prefer: []api.Prefer{{ASN: 100 * (1 + r.Intn(3)), Value: r.Intn(3) - 1}}}}
	case 4:
		return withdraw(n, prefixes[r.Intn(4)])
	}
	words := []string{"", "", "0:100", "0:64496 64496:300", "64496:102:0"}
	return announce(n, 1+r.Intn(3), words[r.Intn(len(words))], prefixes[r.Intn(4)], prefixes[r.Intn(4)])
}

// Whatever records come, the offers are those from nothing, and the changes lead from one to the next.
func TestApplyIsFromNothing(t *testing.T) {
	r := rand.New(rand.NewSource(1))
	for range 40 {
		c := all(t)
		for range 40 {
			next, changes, e := Apply(c, random(r))
			if e != api.OK {
				continue
			}
			if !offers.Valid(next.Server) {
				t.Fatal("the server is not valid")
			}
			var whole []api.Change
			for i, p := range next.Server.Policies {
				want := offers.All(next.Server, p.ASN)
				if !same.Routes(next.Offers[i], want) {
					t.Fatal("offers", next.Offers[i], want)
				}
				whole = append(whole, Diff(p.ASN, c.Offers[i], want)...)
			}
			if !reflect.DeepEqual(changes, whole) {
				t.Fatal("changes", changes, whole)
			}
			c = next
		}
	}
}
