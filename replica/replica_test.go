package replica

import (
	"math/rand"
	"reflect"
	"testing"

	"exchangepoint/api"
	"exchangepoint/attribute"
	"exchangepoint/delta"
	"exchangepoint/prefix"
	"exchangepoint/ribin"
)

func pre(s string) api.Prefix {
	p, e := prefix.Parse(s)
	if e != api.OK {
		panic(s)
	}
	return p
}

func server() api.Server {
	s := api.Server{Filter: api.Filter{Own: 64496, Max4: 24, Max6: 48, Hops: 60}}
	for _, n := range []int{100, 200, 300} {
		s.Filter.Registry.Objects = append(s.Filter.Registry.Objects, api.Object{Prefix: pre("0.0.0.0/0"), Max: 24, ASN: n})
		s.Policies = append(s.Policies, api.Policy{ASN: n, Holes: true})
		s.RIBs = append(s.RIBs, ribin.New(api.Peer{ASN: n, Max4: 9, Max6: 3, Nexts: []api.Addr{{Lo: uint64(n)}}}))
	}
	return s
}

func announce(n int, l ...string) api.Record {
	a := attribute.Empty()
	a.Origin, a.Path, a.Next = 0, []api.Segment{{ASNs: []int{n}}}, api.Addr{Lo: uint64(n)}
	u := api.Update{Attrs: a}
	for _, p := range l {
		u.Announce = append(u.Announce, pre(p))
	}
	return api.Record{Kind: api.LogUpdate, Member: n, Update: u}
}

func up(n int) api.Record { return api.Record{Kind: api.LogUp, Member: n} }

func TestReplay(t *testing.T) {
	log := []api.Record{up(100), up(200), announce(100, "10.0.0.0/8"), {Kind: api.LogPolicy, Member: 200, Policy: api.Policy{ASN: 200, Deny: []int{100}}}}
	c, _ := delta.Begin(server())
	var caches []api.Cache
	for _, r := range log {
		caches = append(caches, c)
		c, _, _ = delta.Apply(c, r)
	}
	if got, n, e := Replay(server(), log); e != api.OK || n != 4 || !reflect.DeepEqual(got, c) {
		t.Error("Replay", got, n, e)
	}
	bad := append([]api.Record{}, log...)
	bad[2] = up(100)
	if got, n, e := Replay(server(), bad); e != api.ErrState || n != 2 || !reflect.DeepEqual(got, caches[2]) {
		t.Error("Replay with an error", got, n, e)
	}
	wrong := server()
	wrong.Filter.Own = 0
	if got, n, e := Replay(wrong, make([]api.Record, 1001)); e != api.ErrArg || n != 0 || !reflect.DeepEqual(got, api.Cache{}) {
		t.Error("Replay of an invalid server", n, e)
	}
	if got, n, e := Replay(server(), make([]api.Record, 1001)); e != api.ErrLimit || n != 0 || !reflect.DeepEqual(got, api.Cache{}) {
		t.Error("Replay of a long log", n, e)
	}
	long := make([]api.Record, 1000)
	for i := range long {
		long[i] = api.Record{Kind: api.LogPolicy, Member: 100, Policy: api.Policy{ASN: 100}}
	}
	if _, n, e := Replay(server(), long); e != api.OK || n != 1000 {
		t.Error("Replay of the longest log", n, e)
	}
}

func TestEmptyAndSnapshot(t *testing.T) {
	s := server()
	s.RIBs[0].Peer.Set = "S"
	full, _, _ := Replay(s, []api.Record{up(100), announce(100, "10.0.0.0/8")})
	got := Empty(full.Server)
	want := server()
	want.RIBs[0].Peer.Set = "S"
	for i := range want.Policies {
		want.Policies[i].Holes = false
	}
	if !reflect.DeepEqual(got, want) {
		t.Error("Empty", got)
	}
	l, e := Snapshot(server())
	if e != api.OK || len(l) != 3 || !reflect.DeepEqual(l[1], api.Record{Kind: api.LogPolicy, Member: 200, Policy: api.Policy{ASN: 200, Holes: true}}) {
		t.Error("Snapshot of an empty server", l, e)
	}
	wrong := server()
	wrong.Filter.Own = 0
	if l, e := Snapshot(wrong); e != api.ErrArg || len(l) > 0 {
		t.Error("Snapshot of an invalid server", e)
	}
	log := []api.Record{up(100), announce(100, "10.0.0.0/8", "11.0.0.0/8"), {Kind: api.LogDown, Member: 100, Tick: 10, Grace: 20}, up(100), announce(100, "11.0.0.0/8")}
	c, _, _ := Replay(server(), log)
	l, _ = Snapshot(c.Server)
	policy := func(n int) api.Record {
		return api.Record{Kind: api.LogPolicy, Member: n, Policy: api.Policy{ASN: n, Holes: true}}
	}
	if !reflect.DeepEqual(l, []api.Record{policy(100), up(100), announce(100, "10.0.0.0/8"), {Kind: api.LogDown, Member: 100, Tick: 0, Grace: 30}, up(100), announce(100, "11.0.0.0/8"), policy(200), policy(300)}) {
		t.Error("Snapshot", l)
	}
	c.Server.RIBs[0].Until = api.MaxTick
	l, _ = Snapshot(c.Server)
	if l[3].Grace != api.MaxGrace || l[3].Tick != api.MaxTick-api.MaxGrace {
		t.Error("Snapshot with a late end", l[3])
	}
}

func TestDigest(t *testing.T) {
	if n := Digest(api.Cache{}); n != 7 {
		t.Error("Digest of nothing", n)
	}
	c, _, _ := Replay(server(), []api.Record{up(100), up(200), announce(100, "255.0.0.0/8")})
	c.Offers[1][0].Prefix.Addr.Hi = 1<<64 - 1
	n := uint64(7)
	for _, x := range []uint64{100, 200, (1<<64 - 1) % (1<<31 - 1), 255 << 24 % (1<<31 - 1), 8, 100, 1, 300} {
		n = (n*1000003 + x%(1<<31-1)) % (1<<31 - 1)
	}
	if got := Digest(c); got != int(n) {
		t.Error("Digest", got, n)
	}
}

func random(r *rand.Rand) api.Record {
	n := 100 * (1 + r.Intn(3))
	l := []string{"10.0.0.0/16", "10.1.0.0/16", "11.0.0.0/8", "12.0.0.0/25"}
	switch r.Intn(6) {
	case 0:
		return up(n)
	case 1:
		return api.Record{Kind: api.LogDown, Member: n, Tick: r.Intn(100), Grace: r.Intn(2) * 50}
	case 2:
		return api.Record{Kind: api.LogPolicy, Member: n, Policy: api.Policy{ASN: n, Hops: r.Intn(3)}}
	}
	return announce(n, l[r.Intn(4)], l[r.Intn(4)])
}

// A snapshot leads to the same server, and goes on like the whole log.
func TestSnapshotLeadsBack(t *testing.T) {
	r := rand.New(rand.NewSource(1))
	for range 100 {
		c, _ := delta.Begin(server())
		for range 25 {
			if next, _, e := delta.Apply(c, random(r)); e == api.OK {
				c = next
			}
		}
		l, e := Snapshot(c.Server)
		if e != api.OK {
			t.Fatal(e)
		}
		d, _, e := Replay(Empty(c.Server), l)
		if e != api.OK || !reflect.DeepEqual(c, d) || Digest(c) != Digest(d) {
			t.Fatal("Replay of Snapshot", e, c.Server, d.Server)
		}
	}
}
