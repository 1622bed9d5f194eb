package choose

import (
	"math/rand"
	"slices"
	"testing"

	"exchangepoint/api"
	"exchangepoint/attribute"
)

func route(from, hops, origin, med int) api.Route {
	a := attribute.Empty()
	a.Origin, a.MED = origin, med
	if hops > 0 {
		a.Path = []api.Segment{{ASNs: slices.Repeat([]int{from}, hops)}}
	}
	return api.Route{From: from, Attrs: a}
}

func TestValue(t *testing.T) {
	p := api.Policy{ASN: 1, Prefer: []api.Prefer{{ASN: 2, Value: -5}, {ASN: 9, Value: 10}}}
	if Value(p, 2) != -5 || Value(p, 9) != 10 || Value(p, 3) != 0 || Value(api.Policy{}, 3) != 0 {
		t.Error("Value")
	}
}

func TestCompare(t *testing.T) {
	p := api.Policy{ASN: 1, Prefer: []api.Prefer{{ASN: 8, Value: -1}, {ASN: 9, Value: 10}}}
	for _, x := range []struct {
		a, b       api.Route
		want, step int
	}{
		{route(9, 5, 2, 9), route(2, 1, 0, 0), -1, api.StepPrefer}, {route(2, 5, 2, 9), route(8, 1, 0, 0), -1, api.StepPrefer}, {route(3, 2, 2, 9), route(2, 3, 0, 0), -1, api.StepHops}, {route(3, 2, 0, 9), route(2, 2, 1, 0), -1, api.StepOrigin}, {route(3, 2, 2, 9), route(2, 2, -1, 0), -1, api.StepOrigin},
		{route(3, 2, 1, 4), route(2, 2, 1, 5), -1, api.StepMED}, {route(3, 2, 1, -1), route(2, 2, 1, 1), -1, api.StepMED}, {route(2, 2, 1, -1), route(3, 2, 1, 0), -1, api.StepMember}, {route(2, 2, 1, 0), route(2, 2, 1, -1), 0, api.StepEqual},
	} {
		if n, step := Compare(p, x.a, x.b); n != x.want || step != x.step {
			t.Error("Compare", x, n, step)
		}
		if n, step := Compare(p, x.b, x.a); n != -x.want || step != x.step {
			t.Error("Compare the other way round", x, n, step)
		}
	}
	set := route(5, 1, 0, 0)
	set.Attrs.Path = append(set.Attrs.Path, api.Segment{Set: true, ASNs: []int{1, 2, 3}})
	if n, step := Compare(p, set, route(4, 3, 0, 0)); n != -1 || step != api.StepHops {
		t.Error("Compare with a set", n, step)
	}
}

func TestBest(t *testing.T) {
	if i, ok := Best(api.Policy{}, nil); ok || i != 0 {
		t.Error("Best of nothing", i, ok)
	}
	l := []api.Route{route(5, 3, 0, 0), route(4, 2, 0, 0), route(3, 2, 0, 0), route(3, 2, 0, -1)}
	if i, ok := Best(api.Policy{}, l); !ok || i != 2 {
		t.Error("Best", i, ok)
	}
	if r := Rank(api.Policy{}, l); !slices.Equal(r, []int{2, 3, 1, 0}) {
		t.Error("Rank", r)
	}
	if r := Rank(api.Policy{}, nil); len(r) != 0 {
		t.Error("Rank of nothing", r)
	}
	r := rand.New(rand.NewSource(1))
	for range 300 {
		p := api.Policy{Prefer: []api.Prefer{{ASN: 2, Value: r.Intn(3) - 1}, {ASN: 4, Value: r.Intn(3) - 1}}}
		var l []api.Route
		for i := range r.Intn(7) {
			l = append(l, route(i+1, 1+r.Intn(2), r.Intn(3)-1, r.Intn(3)-1))
		}
		best, ok := Best(p, l)
		rank := Rank(p, l)
		if ok != (len(l) > 0) || ok && rank[0] != best {
			t.Fatal("Best and Rank differ", best, rank)
		}
		for i := 1; i < len(rank); i++ {
			if n, _ := Compare(p, l[rank[i-1]], l[rank[i]]); n >= 0 {
				t.Fatal("Rank", rank)
			}
		}
	}
}
