package offers

import (
	"math/rand"
	"reflect"
	"slices"
	"testing"

	"exchangepoint/api"
	"exchangepoint/attribute"
	"exchangepoint/choose"
	"exchangepoint/community"
	"exchangepoint/prefix"
	"exchangepoint/ribin"
	"exchangepoint/wish"
)

const own = 64496

func pre(s string) api.Prefix {
	p, e := prefix.Parse(s)
	if e != api.OK {
		panic(s)
	}
	return p
}

// server has members with the AS numbers 100, 200, 300 that may announce everything.
func server(t *testing.T) api.Server {
	t.Helper()
	s := api.Server{Filter: api.Filter{Own: own, Max4: 24, Max6: 48, Hops: 60, Hole4: 25, Hole6: 64}}
	for _, n := range []int{100, 200, 300} {
		s.Filter.Registry.Objects = append(s.Filter.Registry.Objects, api.Object{Prefix: pre("0.0.0.0/0"), Max: 24, ASN: n})
		s.Policies = append(s.Policies, api.Policy{ASN: n})
		b, e := ribin.Raise(ribin.New(api.Peer{ASN: n, Max4: 100, Max6: 100, Nexts: []api.Addr{{Lo: uint64(n)}}}))
		if e != api.OK {
			t.Fatal(e)
		}
		s.RIBs = append(s.RIBs, b)
	}
	return s
}

func send(t *testing.T, s api.Server, i int, p, communities string, hops int) api.Server {
	t.Helper()
	a := attribute.Empty()
	n := s.Policies[i].ASN
	a.Origin, a.Path, a.Next = 0, []api.Segment{{ASNs: slices.Repeat([]int{n}, hops)}}, api.Addr{Lo: uint64(n)}
	a.Communities, a.Large, _ = community.Parse(communities)
	b, e := ribin.Apply(s.Filter, s.RIBs[i], api.Update{Attrs: a, Announce: []api.Prefix{pre(p)}})
	if e != api.OK {
		t.Fatal(p, e)
	}
	s.RIBs = slices.Clone(s.RIBs)
	s.RIBs[i] = b
	return s
}

func from(l []api.Route) []int {
	var out []int
	for _, r := range l {
		out = append(out, r.From)
	}
	return out
}

func TestValid(t *testing.T) {
	good := send(t, server(t), 0, "10.0.0.0/16", "", 60)
	if !Valid(good) || !Valid(api.Server{Filter: good.Filter}) {
		t.Error("valid servers")
	}
	for name, change := range map[string]func(s *api.Server){
		"filter": func(s *api.Server) { s.Filter.Own = 0 }, "policy": func(s *api.Server) { s.Policies[0].Hops = -1 }, "own": func(s *api.Server) { s.Filter.Own = 200 }, "order": func(s *api.Server) { s.Policies[0], s.RIBs[0] = s.Policies[2], s.RIBs[2] }, "twice": func(s *api.Server) { s.Policies[0], s.RIBs[0] = s.Policies[1], s.RIBs[1] },
		"RIBs": func(s *api.Server) { s.RIBs = s.RIBs[:2] }, "policies": func(s *api.Server) { s.Policies = s.Policies[:2] }, "RIB": func(s *api.Server) { s.RIBs[1].Until = -1 }, "peer": func(s *api.Server) { s.RIBs[1].Peer.ASN = 201 },
		"long path": func(s *api.Server) { s.RIBs[0].Held[0].Route.Attrs.Path[0].ASNs = slices.Repeat([]int{100}, 61) },
		"many": func(s *api.Server) {
			s.Policies, s.RIBs = nil, nil
			for i := range 33 {
				s.Policies = append(s.Policies, api.Policy{ASN: i + 1})
				s.RIBs = append(s.RIBs, ribin.New(api.Peer{ASN: i + 1}))
			}
		},
	} {
		s := send(t, server(t), 0, "10.0.0.0/16", "", 60)
		change(&s)
		if Valid(s) {
			t.Error("Valid", name)
		}
	}
	refused := send(t, server(t), 0, "10.0.0.0/16", "", 60)
	refused.RIBs[0].Held[0].Route.Attrs.Path[0].ASNs = slices.Repeat([]int{100}, 61)
	refused.RIBs[0].Held[0].Reason = api.RejHops
	if !Valid(refused) {
		t.Error("a long path that is refused")
	}
}

func TestOffers(t *testing.T) {
	s := send(t, server(t), 0, "10.0.0.0/16", "", 2)
	s = send(t, s, 1, "10.0.0.0/16", "", 1)
	s = send(t, s, 1, "10.1.0.0/16", "0:300", 1)
	s = send(t, s, 2, "10.2.0.0/25", "", 1)
	p := pre("10.0.0.0/16")
	for _, x := range []struct {
		to         int
		candidates []int
		best       int
	}{{100, []int{200}, 200}, {200, []int{100}, 100}, {300, []int{100, 200}, 200}, {400, nil, 0}} {
		r, ok := Offer(s, x.to, p)
		if got := from(Candidates(s, x.to, p)); !slices.Equal(got, x.candidates) || r.From != x.best || ok != (x.best > 0) || !ok && !reflect.DeepEqual(r, api.Route{}) {
			t.Error("Candidates or Offer", x.to, got, r, ok)
		}
	}
	if r, _ := Offer(s, 300, p); r.Attrs.OTC != own || r.Prefix != p {
		t.Error("Offer is exported", r)
	}
	if l := All(s, 100); len(l) != 2 || l[0].Prefix != p || l[1].Prefix != pre("10.1.0.0/16") {
		t.Error("All", l)
	}
	if l := All(s, 300); len(l) != 1 {
		t.Error("All for a member that is denied one", l)
	}
	if l := All(s, 400); len(l) != 0 {
		t.Error("All for nobody", l)
	}
	if l := Prefixes(s); !slices.Equal(l, []api.Prefix{p, pre("10.1.0.0/16"), pre("10.2.0.0/25")}) {
		t.Error("Prefixes", l)
	}
	s.Policies[2].Prefer = []api.Prefer{{ASN: 100, Value: 1}}
	if r, _ := Offer(s, 300, p); r.From != 100 {
		t.Error("Offer by preference", r)
	}
	s.RIBs[0], _ = ribin.Down(s.RIBs[0], 10, 10)
	if r, ok := Offer(s, 300, p); !ok || r.From != 100 {
		t.Error("Offer of a stale route", r, ok)
	}
	if len(All(s, 100)) != 0 || len(Candidates(s, 100, p)) != 0 {
		t.Error("offers for a member that is down")
	}
}

// All is Offer of each prefix, and Offer the best one of the candidates.
func TestAllIsOffer(t *testing.T) {
	r := rand.New(rand.NewSource(1))
	words := []string{"", "0:100", "0:64496", "0:64496 64496:200", "64496:102:0", "65535:65282"}
	for range 60 {
		s := server(t)
		for range 12 {
			s = send(t, s, r.Intn(3), []string{"10.0.0.0/16", "10.1.0.0/16", "10.0.0.0/25", "11.0.0.0/8"}[r.Intn(4)], words[r.Intn(len(words))], 1+r.Intn(3))
		}
		s.Policies[r.Intn(3)].Hops = r.Intn(4)
		for _, p := range s.Policies {
			var want []api.Route
			for _, x := range Prefixes(s) {
				var l []api.Route
				for _, b := range s.RIBs {
					if a, ok := ribin.Accepted(b, x); ok {
						if y, v, e := wish.Export(own, a, p); v == api.Offered && e == api.OK {
							l = append(l, y)
						}
					}
				}
				if i, ok := choose.Best(p, l); ok {
					want = append(want, l[i])
				}
				if got := Candidates(s, p.ASN, x); !reflect.DeepEqual(got, l) {
					t.Fatal("Candidates", got, l)
				}
			}
			if got := All(s, p.ASN); !reflect.DeepEqual(got, want) {
				t.Fatal("All", got, want)
			}
		}
	}
}
