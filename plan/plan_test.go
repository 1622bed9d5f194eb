package plan

import (
	"math/rand"
	"reflect"
	"slices"
	"testing"

	"exchangepoint/api"
	"exchangepoint/drain"
	"exchangepoint/forward"
)

func link(i int) api.Item { return api.Item{Index: i} }

func sw(i int) api.Item { return api.Item{Switch: true, Index: i} }

func fabricOf(n int, l ...api.Link) api.Fabric {
	return api.Fabric{Switches: n, Links: l, Down: make([]bool, len(l)), Dead: make([]bool, n)}
}

func two() api.Fabric { return fabricOf(2, api.Link{A: 0, B: 1, Capacity: 1}) }

func TestFailures(t *testing.T) {
	want := [][]api.Item{{link(0)}, {sw(0)}, {sw(1)}, {link(0), sw(0)}, {link(0), sw(1)}, {sw(0), sw(1)}}
	if got := Failures(two()); !reflect.DeepEqual(got, want) {
		t.Error("Failures", got)
	}
	l := slices.Repeat([]api.Link{{A: 0, B: 1, Capacity: 1}}, 11)
	if got := Failures(fabricOf(2, l[:10]...)); len(got) != 12+66 {
		t.Error("Failures at the limit", len(got))
	}
	if len(Failures(fabricOf(2, l...))) != 0 || len(Failures(api.Fabric{})) != 0 {
		t.Error("Failures of others")
	}
}

func TestShed(t *testing.T) {
	loads := []api.Load{{A: 0, B: 1, Rate: 600}, {A: 1, B: 0, Rate: 500}, {A: 0, B: 0, Rate: 9999}}
	order := []int{2, 1, 0}
	for name, x := range map[string]struct {
		items []api.Item
		want  []int
	}{"nothing": {nil, []int{1, 2}}, "link": {[]api.Item{link(0)}, []int{0, 1}}, "switch": {[]api.Item{sw(1)}, []int{0, 1}}, "other switch": {[]api.Item{sw(0)}, []int{0, 1, 2}}} {
		if got, e := Shed(two(), loads, order, x.items); e != api.OK || !slices.Equal(got, x.want) {
			t.Error("Shed", name, got, e)
		}
	}
	if got, _ := Shed(two(), loads, []int{0, 1, 2}, nil); !slices.Equal(got, []int{0}) {
		t.Error("Shed in another order", got)
	}
	if got, _ := Shed(two(), loads[:1], []int{0}, nil); len(got) != 0 {
		t.Error("Shed of what fits", got)
	}
	dead := two()
	dead.Down[0] = true
	if got, _ := Shed(dead, loads[:1], []int{0}, nil); !slices.Equal(got, []int{0}) {
		t.Error("Shed with a link that was down", got)
	}
	for name, x := range map[string]struct {
		f     api.Fabric
		order []int
		items []api.Item
	}{"fabric": {api.Fabric{}, order, nil}, "items": {two(), order, []api.Item{link(1)}}, "short": {two(), []int{0, 1}, nil}, "long": {two(), []int{0, 1, 2, 2}, nil}, "twice": {two(), []int{0, 1, 1}, nil}, "great": {two(), []int{0, 1, 3}, nil}, "negative": {two(), []int{0, 1, -1}, nil}} {
		if got, e := Shed(x.f, loads, x.order, x.items); e != api.ErrArg || len(got) > 0 {
			t.Error("Shed", name, e)
		}
		if len(x.items) > 0 {
			continue
		}
		if got, e := Build(x.f, loads, x.order); e != api.ErrArg || len(got) > 0 {
			t.Error("Build", name, e)
		}
		if e := Check(x.f, loads, x.order, nil); e != api.ErrArg {
			t.Error("Check", name, e)
		}
	}
}

func TestBuildAndCheck(t *testing.T) {
	loads, order := []api.Load{{A: 0, B: 1, Rate: 600}, {A: 0, B: 1, Rate: 500}}, []int{1, 0}
	l, e := Build(two(), loads, order)
	if e != api.OK || len(l) != 6 || !reflect.DeepEqual(l[0], api.Shed{Items: []api.Item{link(0)}, Loads: []int{0, 1}}) || Check(two(), loads, order, l) != api.OK {
		t.Error("Build or Check", l, e)
	}
	big := fabricOf(2, slices.Repeat([]api.Link{{A: 0, B: 1, Capacity: 1}}, 11)...)
	if got, e := Build(big, loads, order); e != api.ErrLimit || len(got) > 0 {
		t.Error("Build of a big fabric", e)
	}
	if e := Check(big, loads, order, nil); e != api.ErrLimit {
		t.Error("Check of a big fabric", e)
	}
	change := func(f func(m []api.Shed) []api.Shed) []api.Shed { return f(slices.Clone(l)) }
	for name, x := range map[string]struct {
		l    []api.Shed
		want api.Errno
	}{
		"missing": {l[1:], api.ErrGap}, "nothing": {nil, api.ErrGap}, "more": {append(slices.Clone(l), l[0]), api.ErrGap}, "order": {change(func(m []api.Shed) []api.Shed { m[0], m[1] = m[1], m[0]; return m }), api.ErrGap}, "loads": {change(func(m []api.Shed) []api.Shed { m[0].Loads = []int{0}; return m }), api.ErrLoad},
		"gap ahead of load": {change(func(m []api.Shed) []api.Shed { m[0].Loads = nil; m[5].Items = []api.Item{sw(1), sw(0)}; return m }), api.ErrGap},
	} {
		if e := Check(two(), loads, order, x.l); e != x.want {
			t.Error("Check", name, e)
		}
	}
}

func TestLookup(t *testing.T) {
	l := []api.Shed{{Items: []api.Item{link(0)}, Loads: []int{1}}, {Items: []api.Item{link(0), sw(1)}, Loads: []int{2, 3}}, {Items: []api.Item{sw(1), link(0)}, Loads: []int{4}}}
	for _, x := range []struct {
		items []api.Item
		want  []int
		ok    bool
	}{{[]api.Item{link(0)}, []int{1}, true}, {[]api.Item{link(0), sw(1)}, []int{2, 3}, true}, {[]api.Item{sw(1), link(0)}, []int{2, 3}, true}, {[]api.Item{sw(1)}, nil, false}, {nil, nil, false}} {
		if got, ok := Lookup(l, x.items); ok != x.ok || !slices.Equal(got, x.want) {
			t.Error("Lookup", x.items, got, ok)
		}
	}
}

// After what is given up, what is left can be carried; a load is given up for want of room only if all before it are.
func TestWhatIsLeftFits(t *testing.T) {
	r := rand.New(rand.NewSource(1))
	for range 100 {
		f := fabricOf(4)
		for range 3 + r.Intn(4) {
			a := r.Intn(4)
			f.Links, f.Down = append(f.Links, api.Link{A: a, B: (a + 1 + r.Intn(3)) % 4, Capacity: 1 + r.Intn(2)}), append(f.Down, false)
		}
		var loads []api.Load
		for range r.Intn(6) {
			loads = append(loads, api.Load{A: r.Intn(4), B: r.Intn(4), Rate: r.Intn(1500)})
		}
		order := r.Perm(len(loads))
		l, e := Build(f, loads, order)
		if e != api.OK {
			t.Fatal(e)
		}
		for _, s := range l {
			g := drain.Without(f, s.Items)
			sums := make([]int, len(g.Links))
			room := true // so far in order, all were given up
			for i, x := range loads {
				way, ok := forward.Way(g, x.A, x.B, i)
				if !slices.Contains(s.Loads, i) {
					if !ok {
						t.Fatal("kept without a way")
					}
					for _, k := range way {
						sums[k] += x.Rate
					}
				}
			}
			for i, n := range sums {
				if n > 1000*g.Links[i].Capacity {
					t.Fatal("what is left does not fit", s)
				}
			}
			for _, i := range order {
				_, ok := forward.Way(g, loads[i].A, loads[i].B, i)
				given := slices.Contains(s.Loads, i)
				if given && ok && !room {
					t.Fatal("given up for want of room, but one before it was not", s, order)
				}
				room = room && given
			}
			if got, ok := Lookup(l, s.Items); !ok || !slices.Equal(got, s.Loads) {
				t.Fatal("Lookup", s)
			}
		}
	}
}
