package system

import (
	"math/rand"
	"slices"
	"testing"

	"exchangepoint/api"
	"exchangepoint/attribute"
	"exchangepoint/blackhole"
	"exchangepoint/community"
	"exchangepoint/delta"
	"exchangepoint/meter"
	"exchangepoint/pace"
	"exchangepoint/pack"
	"exchangepoint/prefix"
	"exchangepoint/ribin"
	"exchangepoint/role"
	"exchangepoint/same"
	"exchangepoint/update"
)

func pre(s string) api.Prefix {
	p, e := prefix.Parse(s)
	if e != api.OK {
		panic(s)
	}
	return p
}

func server(asns ...int) api.Server {
	s := api.Server{Filter: api.Filter{Own: 64496, Max4: 24, Max6: 48, Hops: 60, Hole4: 25, Hole6: 64}}
	for _, n := range asns {
		s.Filter.Registry.Objects = append(s.Filter.Registry.Objects, api.Object{Prefix: pre("0.0.0.0/0"), Max: 24, ASN: n})
		s.Policies = append(s.Policies, api.Policy{ASN: n})
		b, _ := ribin.Raise(ribin.New(api.Peer{ASN: n, Max4: 90, Max6: 3, Nexts: []api.Addr{{Lo: uint64(n)}}}))
		s.RIBs = append(s.RIBs, b)
	}
	return s
}

func random(r *rand.Rand, n int) api.Record {
	words := []string{"", "", "0:100", "0:64496 64496:300", "64496:102:0", "65535:666", "65535:65282"}
	u := api.Update{Attrs: attribute.Empty()}
	for range r.Intn(6) {
		p, _ := prefix.Make(api.Addr{Lo: uint64(r.Intn(40)) << 24}, 8+r.Intn(20))
		if r.Intn(3) == 0 {
			u.Withdraw = append(u.Withdraw, p)
		} else {
			u.Announce = append(u.Announce, p)
		}
	}
	if len(u.Announce) > 0 {
		a := &u.Attrs
		a.Origin, a.Path, a.Next = 0, []api.Segment{{ASNs: slices.Repeat([]int{n}, 1+r.Intn(3))}}, api.Addr{Lo: uint64(n)}
		a.Communities, a.Large, _ = community.Parse(words[r.Intn(len(words))])
	}
	return api.Record{Kind: api.LogUpdate, Member: n, Update: u}
}

// wire sends messages as bytes that arrive in pieces, and returns what is read.
func wire(t *testing.T, r *rand.Rand, l []api.Update) []api.Update {
	t.Helper()
	var bytes []byte
	for _, u := range l {
		body, e := update.Encode(u)
		if e != api.OK {
			t.Fatal(e)
		}
		b, e := update.Frame(api.Message{Type: api.MsgUpdate, Body: body})
		if e != api.OK || len(b) != update.Size(u) {
			t.Fatal(e)
		}
		bytes = append(bytes, b...)
	}
	var out []api.Update
	var here []byte
	for len(bytes) > 0 || len(here) > 0 {
		n := min(len(bytes), r.Intn(300))
		here, bytes = append(here, bytes[:n]...), bytes[n:]
		m, n, e := update.Parse(here)
		if e == api.ErrShort {
			continue
		}
		u, e2 := update.Decode(m.Body)
		if e != api.OK || e2 != api.OK {
			t.Fatal(e, e2)
		}
		out = append(out, u)
		here = here[n:]
	}
	return out
}

// T4 and T15: what is offered arrives over queues, messages and bytes. T14: nothing that was offered comes back.
func TestOffersArrive(t *testing.T) {
	r := rand.New(rand.NewSource(1))
	asns := []int{100, 200, 300}
	for range 15 {
		c, e := delta.Begin(server(asns...))
		if e != api.OK {
			t.Fatal(e)
		}
		queues := make([]api.Queue, len(asns))
		received := make([][]api.Route, len(asns))
		for i := range queues {
			queues[i].Bucket = meter.New(1, 2)
		}
		flow := func(i int) {
			next, l, e := pace.Send(queues[i])
			if e != api.OK {
				t.Fatal(e)
			}
			received[i] = delta.Play(received[i], pack.Unpack(wire(t, r, l), asns[i]))
			queues[i] = pace.Tick(next)
		}
		for range 60 {
			next, changes, e := delta.Apply(c, random(r, asns[r.Intn(3)]))
			if e != api.OK {
				continue
			}
			c = next
			for i, n := range asns {
				own := slices.DeleteFunc(slices.Clone(changes), func(c api.Change) bool { return c.To != n })
				queues[i], e = pace.Push(queues[i], own)
				if e != api.OK {
					t.Fatal(e)
				}
				flow(i)
			}
		}
		for i, n := range asns {
			for !pace.Idle(queues[i]) {
				flow(i)
			}
			if !same.Routes(received[i], c.Offers[i]) {
				t.Fatal("what arrived is not what is offered", n)
			}
			for _, x := range received[i] {
				if _, e := role.Receive(api.RoleServer, n, x.Attrs); e != api.ErrRole {
					t.Fatal("what was offered might come back", x)
				}
			}
		}
	}
}

// T7 and T8: a policy and a blackholing request matter for those alone that they concern.
func TestOthersAreNotHarmed(t *testing.T) {
	c, _ := delta.Begin(server(100, 200, 300))
	apply := func(r api.Record) []api.Change {
		next, l, e := delta.Apply(c, r)
		if e != api.OK {
			t.Fatal(e)
		}
		c = next
		return l
	}
	announce := func(n int, communities, p string) api.Record {
		a := attribute.Empty()
		a.Origin, a.Path, a.Next = 0, []api.Segment{{ASNs: []int{n}}}, api.Addr{Lo: uint64(n)}
		a.Communities, _, _ = community.Parse(communities)
		return api.Record{Kind: api.LogUpdate, Member: n, Update: api.Update{Attrs: a, Announce: []api.Prefix{pre(p)}}}
	}
	apply(announce(100, "", "10.0.0.0/16"))
	for _, x := range apply(api.Record{Kind: api.LogPolicy, Member: 200, Policy: api.Policy{ASN: 200, Holes: true}}) {
		if x.To != 200 {
			t.Error("a policy matters for another member", x)
		}
	}
	apply(announce(100, "65535:666", "10.0.0.1/32"))
	hit, near := api.Addr{Lo: 10<<24 + 1}, api.Addr{Lo: 10<<24 + 2}
	if !blackhole.Drops(c.Offers[1], hit) || blackhole.Drops(c.Offers[1], near) || blackhole.Drops(c.Offers[2], hit) {
		t.Error("traffic is dropped elsewhere, or not where it was requested")
	}
	if x, ok := blackhole.Match(c.Offers[2], hit); !ok || x.Prefix != pre("10.0.0.0/16") {
		t.Error("a member that takes no requests", x, ok)
	}
	if got := blackhole.Requested(c.Server, hit); !slices.Equal(got, []int{100}) {
		t.Error("Requested", got)
	}
}
