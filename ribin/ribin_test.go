package ribin

import (
	"reflect"
	"slices"
	"testing"

	"exchangepoint/addr"
	"exchangepoint/api"
	"exchangepoint/attribute"
	"exchangepoint/prefix"
)

func pre(s string) api.Prefix {
	p, e := prefix.Parse(s)
	if e != api.OK {
		panic(s)
	}
	return p
}

func at(s string) api.Addr {
	a, _ := addr.Parse(s)
	return a
}

func rules() api.Filter {
	return api.Filter{Own: 64496, Max4: 24, Max6: 48, Hops: 9, Hole4: 32, Hole6: 128, Registry: api.Registry{Objects: []api.Object{{Prefix: pre("10.0.0.0/8"), Max: 24, ASN: 100}, {Prefix: pre("2001::/16"), Max: 48, ASN: 100}}}}
}

func peer() api.Peer {
	return api.Peer{ASN: 100, Max4: 2, Max6: 1, Nexts: []api.Addr{at("192.0.2.1"), at("2001:db8::1")}}
}

func announce(med int, l ...string) api.Update {
	a := attribute.Empty()
	a.Origin, a.Path, a.Next, a.MED = 0, []api.Segment{{ASNs: []int{100}}}, at("192.0.2.1"), med
	u := api.Update{Attrs: a}
	for _, s := range l {
		u.Announce = append(u.Announce, pre(s))
	}
	if u.Announce[0].Addr.V6 {
		u.Attrs.Next = at("2001:db8::1")
	}
	return u
}

func withdraw(l ...string) api.Update {
	u := api.Update{Attrs: attribute.Empty()}
	for _, s := range l {
		u.Withdraw = append(u.Withdraw, pre(s))
	}
	return u
}

func up(t *testing.T, l ...api.Update) api.RIB {
	t.Helper()
	b, e := Raise(New(peer()))
	for _, u := range l {
		if e == api.OK {
			b, e = Apply(rules(), b, u)
		}
	}
	if e != api.OK || !Valid(b) {
		t.Fatal(e, b)
	}
	return b
}

func TestNewAndGet(t *testing.T) {
	if b := New(peer()); !reflect.DeepEqual(b, api.RIB{Peer: peer()}) || !Valid(b) {
		t.Error("New", b)
	}
	b := up(t, announce(5, "10.0.0.0/8", "11.0.0.0/8"))
	r := api.Route{Prefix: pre("10.0.0.0/8"), From: 100, Attrs: announce(5, "10.0.0.0/8").Attrs}
	if h, ok := Get(b, r.Prefix); !ok || !reflect.DeepEqual(h, api.Held{Route: r}) {
		t.Error("Get", h, ok)
	}
	if got, ok := Accepted(b, r.Prefix); !ok || !reflect.DeepEqual(got, r) {
		t.Error("Accepted", got, ok)
	}
	if h, ok := Get(b, pre("11.0.0.0/8")); !ok || h.Reason != api.RejRegistry {
		t.Error("Get of a refused one", h, ok)
	}
	for _, s := range []string{"11.0.0.0/8", "10.0.0.0/9"} {
		if got, ok := Accepted(b, pre(s)); ok || !reflect.DeepEqual(got, api.Route{}) {
			t.Error("Accepted", s, got, ok)
		}
	}
	if h, ok := Get(b, pre("10.0.0.0/9")); ok || !reflect.DeepEqual(h, api.Held{}) {
		t.Error("Get of none", h, ok)
	}
	slices.Reverse(b.Held)
	if _, ok := Get(b, r.Prefix); !ok {
		t.Error("Get from a list that is not in order")
	}
}

func TestValid(t *testing.T) {
	stale := func() api.RIB {
		b, _ := Down(up(t, announce(5, "10.0.0.0/8", "10.0.0.0/9"), announce(5, "2001::/16")), 100, 50)
		return b
	}
	if b := stale(); !Valid(b) || b.Until != 150 || b.Up || len(b.Held) != 3 {
		t.Error("a stale RIB", b)
	}
	for name, change := range map[string]func(b *api.RIB){
		"peer": func(b *api.RIB) { b.Peer.Max4 = 257 }, "Max4": func(b *api.RIB) { b.Peer.Max4 = 1 }, "Max6": func(b *api.RIB) { b.Peer.Max6 = 0 }, "prefix": func(b *api.RIB) { b.Held[0].Route.Prefix.Len = 3 }, "order": func(b *api.RIB) { b.Held[0], b.Held[1] = b.Held[1], b.Held[0] }, "twice": func(b *api.RIB) { b.Held[1] = b.Held[0] }, "attributes": func(b *api.RIB) { b.Held[1].Route.Attrs.MED = -2 },
		"from": func(b *api.RIB) { b.Held[1].Route.From = 101 }, "reason -1": func(b *api.RIB) { b.Held[0].Reason = -1 }, "reason": func(b *api.RIB) { b.Held[0].Reason = 15 }, "until -1": func(b *api.RIB) { b.Until = -1 }, "until": func(b *api.RIB) { b.Until = api.MaxTick + api.MaxGrace + 1 }, "until 0": func(b *api.RIB) { b.Until = 0 }, "not stale": func(b *api.RIB) { b.Held[1].Stale = false },
		"until of nothing": func(b *api.RIB) { b.Held = nil },
	} {
		b := stale()
		change(&b)
		if Valid(b) {
			t.Error("Valid", name)
		}
		if got, e := Apply(rules(), b, withdraw()); e != api.ErrArg || !reflect.DeepEqual(got, api.RIB{}) {
			t.Error("Apply", name, e)
		}
		if _, e := Raise(b); e != api.ErrArg {
			t.Error("Raise", name, e)
		}
		if _, e := Down(b, 0, 0); e != api.ErrArg {
			t.Error("Down", name, e)
		}
	}
	b := stale()
	b.Until, b.Held[0].Reason = api.MaxTick+api.MaxGrace, api.RejOrigin
	if !Valid(b) {
		t.Error("a RIB at the limits")
	}
	big := New(peer())
	big.Peer.Max4, big.Peer.Max6, big.Up = 256, 256, true
	h := up(t, announce(5, "10.0.0.0/8")).Held[0]
	for i := range 257 {
		h.Route.Prefix = api.Prefix{Addr: api.Addr{V6: i > 99, Lo: uint64(i)}, Len: 32}
		if i > 99 {
			h.Route.Prefix.Len = 128
		}
		big.Held = append(big.Held, h)
	}
	if Valid(big) {
		t.Error("257 elements")
	}
	big.Held = big.Held[:256]
	if !Valid(big) {
		t.Error("256 elements")
	}
	if got, e := Apply(rules(), big, announce(1, "10.0.0.0/8")); e != api.ErrMany || len(got.Held) != 256 {
		t.Error("Apply of the 257th", e)
	}
}

func TestApply(t *testing.T) {
	b := up(t, announce(5, "10.1.0.0/16", "10.0.0.0/8"), announce(5, "2001::/16"))
	if len(b.Held) != 3 || b.Held[0].Route.Prefix != pre("10.0.0.0/8") || !b.Held[2].Route.Prefix.Addr.V6 {
		t.Error("Apply", b.Held)
	}
	u := announce(7, "10.2.0.0/16", "10.0.0.0/8")
	u.Withdraw = []api.Prefix{pre("10.1.0.0/16"), pre("10.0.0.0/8"), pre("12.0.0.0/8")}
	c, e := Apply(rules(), b, u)
	if e != api.OK || len(c.Held) != 3 || c.Held[0].Route.Attrs.MED != 7 || c.Held[1].Route.Prefix != pre("10.2.0.0/16") || !Valid(c) {
		t.Error("Apply of both", c.Held, e)
	}
	if again, e := Apply(rules(), c, u); e != api.OK || !reflect.DeepEqual(again, c) {
		t.Error("Apply again", again, e)
	}
	for _, u := range []api.Update{announce(5, "10.3.0.0/16"), announce(5, "2001:1::/32")} {
		if got, e := Apply(rules(), b, u); e != api.ErrMany || !reflect.DeepEqual(got, b) {
			t.Error("Apply of more", got, e)
		}
	}
	bad := rules()
	bad.Own = 0
	for name, x := range map[string]struct {
		f    api.Filter
		b    api.RIB
		u    api.Update
		want api.Errno
	}{"filter": {bad, b, u, api.ErrArg}, "update": {rules(), New(peer()), api.Update{}, api.ErrArg}, "down": {rules(), New(peer()), withdraw(), api.ErrState}, "nothing": {rules(), b, withdraw(), api.OK}} {
		if got, e := Apply(x.f, x.b, x.u); e != x.want || e != api.OK && !reflect.DeepEqual(got, api.RIB{}) {
			t.Error("Apply", name, e)
		}
	}
}

func TestRestart(t *testing.T) {
	b := up(t, announce(5, "10.0.0.0/8", "10.1.0.0/16"), announce(5, "2001::/16"))
	if _, e := Raise(b); e != api.ErrState {
		t.Error("Raise of one that is up", e)
	}
	if got, e := Down(b, 100, 0); e != api.OK || !reflect.DeepEqual(got, New(peer())) {
		t.Error("Down without grace", got, e)
	}
	down, e := Down(b, 100, 50)
	if e != api.OK || down.Up || down.Until != 150 || len(down.Held) != 3 || !down.Held[0].Stale || !down.Held[2].Stale {
		t.Error("Down", down, e)
	}
	if got, e := Down(up(t), 100, 50); e != api.OK || got.Until != 0 || got.Up {
		t.Error("Down of nothing", got, e)
	}
	if _, e := Down(down, 100, 50); e != api.ErrState {
		t.Error("Down of one that is down", e)
	}
	for _, x := range [][2]int{{-1, 0}, {api.MaxTick + 1, 0}, {0, -1}, {0, api.MaxGrace + 1}} {
		if got, e := Down(b, x[0], x[1]); e != api.ErrArg || !reflect.DeepEqual(got, api.RIB{}) {
			t.Error("Down", x, e)
		}
	}
	if got, e := Down(b, api.MaxTick, api.MaxGrace); e != api.OK || !Valid(got) {
		t.Error("Down at the limits", e)
	}
	c, e := Raise(down)
	if e != api.OK || !c.Up || c.Until != 150 || !Valid(c) {
		t.Error("Raise", c, e)
	}
	c, _ = Apply(rules(), c, announce(5, "10.0.0.0/8"))
	if c.Held[0].Stale || !c.Held[1].Stale || c.Until != 150 {
		t.Error("Apply after a restart", c)
	}
	if got := Sweep(c, 0); len(got.Held) != 2 || got.Until != 150 || !got.Held[1].Route.Prefix.Addr.V6 {
		t.Error("Sweep without V6", got)
	}
	if got := Sweep(c, 1); len(got.Held) != 2 || got.Until != 150 {
		t.Error("Sweep with V6", got)
	}
	if got := Sweep(Sweep(c, 1), 0); len(got.Held) != 1 || got.Until != 0 || !Valid(got) {
		t.Error("Sweep of both", got)
	}
	for _, which := range []int{2, -1, 7} {
		if got := Sweep(c, which); len(got.Held) != 1 || got.Until != 0 {
			t.Error("Sweep", which, got)
		}
	}
	c, _ = Apply(rules(), c, announce(5, "10.1.0.0/16"))
	c, _ = Apply(rules(), c, announce(5, "2001::/16"))
	if c.Until != 0 || !reflect.DeepEqual(c, b) {
		t.Error("everything again", c)
	}
}

func TestMoved(t *testing.T) {
	a := up(t, announce(5, "10.0.0.0/8", "10.1.0.0/16"), announce(5, "2001::/16"))
	b := up(t, announce(5, "10.0.0.0/8"), announce(6, "2001::/16"), announce(5, "11.0.0.0/8"))
	if got := Moved(a, b); !slices.Equal(got, []api.Prefix{pre("10.1.0.0/16"), pre("2001::/16")}) {
		t.Error("Moved", got)
	}
	if got := Moved(b, a); !slices.Equal(got, []api.Prefix{pre("10.1.0.0/16"), pre("2001::/16")}) {
		t.Error("Moved back", got)
	}
	stale, _ := Down(a, 1, 1)
	if got := Moved(a, stale); len(got) != 0 {
		t.Error("Moved of stale ones", got)
	}
}
