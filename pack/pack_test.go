package pack

import (
	"cmp"
	"math/rand"
	"reflect"
	"slices"
	"testing"

	"exchangepoint/addr"
	"exchangepoint/api"
	"exchangepoint/attribute"
	"exchangepoint/prefix"
	"exchangepoint/update"
)

func pre(s string) api.Prefix {
	p, e := prefix.Parse(s)
	if e != api.OK {
		panic(s)
	}
	return p
}

func gone(p string) api.Change { return api.Change{To: 7, Prefix: pre(p)} }

func has(p string, med int) api.Change {
	a := attribute.Empty()
	a.Origin, a.Path, a.MED = 0, []api.Segment{{ASNs: []int{100}}}, med
	a.Next, _ = addr.Parse("192.0.2.1")
	if pre(p).Addr.V6 {
		a.Next, _ = addr.Parse("2001:db8::1")
	}
	return api.Change{To: 7, Prefix: pre(p), Has: true, Route: api.Route{Prefix: pre(p), From: 100, Attrs: a}}
}

func TestPack(t *testing.T) {
	l := []api.Change{has("10.0.0.0/8", 1), gone("11.0.0.0/8"), has("12.0.0.0/8", 2), has("13.0.0.0/8", 1), gone("::/0")}
	got, e := Pack(l)
	want := []api.Update{
		{Withdraw: []api.Prefix{pre("11.0.0.0/8"), pre("::/0")}, Attrs: attribute.Empty()},
		{Attrs: l[0].Route.Attrs, Announce: []api.Prefix{pre("10.0.0.0/8"), pre("13.0.0.0/8")}}, {Attrs: l[2].Route.Attrs, Announce: []api.Prefix{pre("12.0.0.0/8")}},
	}
	if e != api.OK || !reflect.DeepEqual(got, want) {
		t.Error("Pack", got, e)
	}
	back := Unpack(got, 7)
	if !reflect.DeepEqual(back, []api.Change{l[1], l[4], l[0], l[3], l[2]}) {
		t.Error("Unpack", back)
	}
	if got, e := Pack(nil); e != api.OK || len(got) != 0 {
		t.Error("Pack of nothing", got, e)
	}
	a := []api.Change{has("10.0.0.0/8", 1), has("11.0.0.0/8", 1)}
	a[1].Route.Attrs.Communities = []api.Community{}
	if got, _ := Pack(a); len(got) != 1 {
		t.Error("nil and empty lists are equal", got)
	}
	six := []api.Change{has("1::/16", 1), has("2::/16", 1)}
	six[1].Route.Attrs.Next.Lo++
	if got, _ := Pack(six); len(got) != 2 {
		t.Error("next hops with V6 differ", got)
	}
}

func TestPackErrors(t *testing.T) {
	other := has("10.0.0.0/8", 1)
	other.Route.Prefix.Len = 9
	next := has("10.0.0.0/8", 1)
	next.Route.Attrs.Next = api.Addr{V6: true}
	for name, l := range map[string][]api.Change{"prefix": {{Prefix: api.Prefix{Len: 33}}}, "order": {gone("11.0.0.0/8"), gone("10.0.0.0/8")}, "twice": {gone("11.0.0.0/8"), has("11.0.0.0/8", 1)}, "route": {other}, "next": {next}, "no attributes": {{Prefix: pre("10.0.0.0/8"), Has: true, Route: api.Route{Prefix: pre("10.0.0.0/8")}}}} {
		if got, e := Pack(l); e != api.ErrArg || len(got) > 0 {
			t.Error("Pack", name, e)
		}
	}
}

func TestUnpack(t *testing.T) {
	set := has("10.0.0.0/8", 1).Route.Attrs
	set.Path = []api.Segment{{Set: true, ASNs: []int{5}}}
	l := Unpack([]api.Update{{Withdraw: []api.Prefix{pre("9.0.0.0/8")}, Attrs: set, Announce: []api.Prefix{pre("10.0.0.0/8")}}}, 3)
	if !reflect.DeepEqual(l, []api.Change{{To: 3, Prefix: pre("9.0.0.0/8")}, {To: 3, Prefix: pre("10.0.0.0/8"), Has: true, Route: api.Route{Prefix: pre("10.0.0.0/8"), Attrs: set}}}) {
		t.Error("Unpack", l)
	}
}

// Every message is valid, and takes as many prefixes as it can.
func TestFull(t *testing.T) {
	r := rand.New(rand.NewSource(1))
	for range 10 {
		var l []api.Change
		for range 700 {
			x := api.Addr{Lo: uint64(r.Intn(1 << 24)), V6: r.Intn(2) == 0}
			p, _ := prefix.Make(x, 32)
			if x.V6 {
				p, _ = prefix.Make(x, 128-r.Intn(20))
			}
			c := has(prefix.Print(p), 1+r.Intn(2))
			if r.Intn(2) == 0 {
				c = gone(prefix.Print(p))
			}
			l = append(l, c)
		}
		slices.SortFunc(l, func(a, b api.Change) int { return prefix.Cmp(a.Prefix, b.Prefix) })
		l = slices.CompactFunc(l, func(a, b api.Change) bool { return a.Prefix == b.Prefix })
		got, e := Pack(l)
		if e != api.OK {
			t.Fatal(e)
		}
		for i, u := range got {
			if !update.Valid(u) {
				t.Fatal("not valid", u)
			}
			if i+1 == len(got) {
				continue
			}
			n := got[i+1]
			if len(u.Withdraw) > 0 && len(n.Withdraw) > 0 && update.Valid(api.Update{Withdraw: append(slices.Clone(u.Withdraw), n.Withdraw[0]), Attrs: u.Attrs}) {
				t.Fatal("one more would fit", len(u.Withdraw))
			}
			if len(u.Announce) > 0 && reflect.DeepEqual(u.Attrs, n.Attrs) && update.Valid(api.Update{Announce: append(slices.Clone(u.Announce), n.Announce[0]), Attrs: u.Attrs}) {
				t.Fatal("one more would fit", len(u.Announce))
			}
		}
		back := Unpack(got, 7)
		slices.SortFunc(back, func(a, b api.Change) int { return cmp.Or(prefix.Cmp(a.Prefix, b.Prefix)) })
		if !reflect.DeepEqual(back, l) {
			t.Fatal("Unpack of Pack")
		}
	}
}
