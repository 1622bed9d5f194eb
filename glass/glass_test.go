package glass

import (
	"math/rand"
	"slices"
	"testing"

	"exchangepoint/api"
	"exchangepoint/attribute"
	"exchangepoint/community"
	"exchangepoint/offers"
	"exchangepoint/prefix"
	"exchangepoint/ribin"
)

func pre(s string) api.Prefix {
	p, e := prefix.Parse(s)
	if e != api.OK {
		panic(s)
	}
	return p
}

func server(asns ...int) api.Server {
	s := api.Server{Filter: api.Filter{Own: 64496, Max4: 24, Max6: 48, Hops: 60}}
	for _, n := range asns {
		s.Filter.Registry.Objects = append(s.Filter.Registry.Objects, api.Object{Prefix: pre("0.0.0.0/0"), Max: 24, ASN: n})
		s.Policies = append(s.Policies, api.Policy{ASN: n})
		b, _ := ribin.Raise(ribin.New(api.Peer{ASN: n, Max4: 9, Max6: 3, Nexts: []api.Addr{{Lo: uint64(n)}}}))
		s.RIBs = append(s.RIBs, b)
	}
	return s
}

func send(s api.Server, i, hops, med int, communities string, l ...string) {
	a := attribute.Empty()
	n := s.Policies[i].ASN
	a.Origin, a.MED, a.Path, a.Next = 0, med, []api.Segment{{ASNs: slices.Repeat([]int{n}, hops)}}, api.Addr{Lo: uint64(n)}
	a.Communities, a.Large, _ = community.Parse(communities)
	u := api.Update{Attrs: a}
	for _, p := range l {
		u.Announce = append(u.Announce, pre(p))
	}
	b, e := ribin.Apply(s.Filter, s.RIBs[i], u)
	if e != api.OK {
		panic(e)
	}
	s.RIBs[i] = b
}

func TestExplain(t *testing.T) {
	p := pre("10.0.0.0/16")
	s := server(100, 200, 300, 400, 500, 600)
	send(s, 0, 2, 0, "", "10.0.0.0/16")
	send(s, 1, 1, 5, "", "10.0.0.0/16")
	send(s, 2, 1, 4, "", "10.0.0.0/16")
	send(s, 3, 1, 0, "0:500", "10.0.0.0/16")
	send(s, 4, 1, 0, "65535:65282", "10.0.0.0/16", "10.0.0.0/25")
	s.RIBs[5], _ = ribin.Down(s.RIBs[5], 0, 0)
	for to, want := range map[int][]api.Why{
		500: {{From: 100, Kind: api.WhyWorse, Code: api.StepHops, By: 300}, {From: 200, Kind: api.WhyWorse, Code: api.StepMED, By: 300}, {From: 300, Kind: api.WhyBest}, {From: 400, Kind: api.WhyWish, Code: api.WishDenied}, {From: 500, Kind: api.WhyWish, Code: api.WishSelf}},
		100: {{From: 100, Kind: api.WhyWish, Code: api.WishSelf}, {From: 200, Kind: api.WhyWorse, Code: api.StepMED, By: 400}, {From: 300, Kind: api.WhyWorse, Code: api.StepMED, By: 400}, {From: 400, Kind: api.WhyBest}, {From: 500, Kind: api.WhyWish, Code: api.WishNone}},
		600: {{From: 100, Kind: api.WhyDown}, {From: 200, Kind: api.WhyDown}, {From: 300, Kind: api.WhyDown}, {From: 400, Kind: api.WhyDown}, {From: 500, Kind: api.WhyDown}}, 700: nil,
	} {
		got := Explain(s, to, p)
		if !slices.Equal(got, want) || !Check(s, to, p, want) {
			t.Error("Explain", to, got)
		}
		if Check(s, to, p, append(slices.Clone(want), api.Why{})) || len(want) > 0 && Check(s, to, p, want[1:]) {
			t.Error("Check", to)
		}
	}
	if got := Explain(s, 100, pre("10.0.0.0/25")); !slices.Equal(got, []api.Why{{From: 500, Kind: api.WhyFilter, Code: api.RejLength}}) {
		t.Error("Explain of a refused one", got)
	}
	if got := Explain(s, 100, pre("11.0.0.0/8")); len(got) != 0 {
		t.Error("Explain of none", got)
	}
}

func TestTexts(t *testing.T) {
	for s, w := range map[string]api.Why{"64500 2 12 0": {From: 64500, Kind: 2, Code: 12}, "64501 1 0 0": {From: 64501, Kind: 1}, "-1 0 -1099511627776 1099511627776": {From: -1, Code: -1 << 40, By: 1 << 40}} {
		if Print(w) != s {
			t.Error("Print", w, Print(w))
		}
		if got, e := Parse(s); e != api.OK || got != w {
			t.Error("Parse", s, got, e)
		}
	}
	for _, s := range []string{"", "1 2 3", "1 2 3 4 5", "1 2 3 ", "1  2 3 4", "01 2 3 4", "+1 2 3 4", "-0 1 2 3", "1099511627777 1 1 1", "-1099511627777 1 1 1", "a 1 1 1", "1 2 3 4\n", "99999999999999999999 1 1 1"} {
		if got, e := Parse(s); e != api.ErrSyntax || got != (api.Why{}) {
			t.Error("Parse", s, got, e)
		}
	}
}

// Exactly one explanation is WhyBest if there is an offer, and none otherwise.
func TestOneBest(t *testing.T) {
	r := rand.New(rand.NewSource(1))
	words := []string{"", "0:100", "0:64496", "0:64496 64496:200", "64496:102:0", "65535:65282"}
	for range 100 {
		s := server(100, 200, 300)
		for range 6 {
			send(s, r.Intn(3), 1+r.Intn(2), r.Intn(2), words[r.Intn(len(words))], []string{"10.0.0.0/16", "10.0.0.0/25"}[r.Intn(2)])
		}
		for _, p := range offers.Prefixes(s) {
			for _, to := range []int{100, 200, 300} {
				best := 0
				for _, w := range Explain(s, to, p) {
					if w.Kind == api.WhyBest {
						best++
					}
				}
				if _, ok := offers.Offer(s, to, p); ok != (best == 1) || best > 1 {
					t.Fatal("WhyBest", best, ok)
				}
			}
		}
	}
}
