package drain

import (
	"math/rand"
	"reflect"
	"slices"
	"testing"

	"exchangepoint/api"
	"exchangepoint/forward"
)

func ring(n, capacity int) api.Fabric {
	f := api.Fabric{Switches: n, Dead: make([]bool, n)}
	for i := range n {
		f.Links = append(f.Links, api.Link{A: i, B: (i + 1) % n, Capacity: capacity})
		f.Down = append(f.Down, false)
	}
	return f
}

func link(i int) api.Item { return api.Item{Index: i} }

func sw(i int) api.Item { return api.Item{Switch: true, Index: i} }

func TestValid(t *testing.T) {
	f := ring(8, 1)
	var items []api.Item
	for i := range 8 {
		items = append(items, link(i))
	}
	if !Valid(f, slices.Repeat([]api.Load{{A: 0, B: 7, Rate: 1 << 30}}, 16), items) || !Valid(f, []api.Load{{A: 1, B: 1}}, []api.Item{link(1), sw(1)}) {
		t.Error("valid arguments")
	}
	bad := ring(8, 0)
	for name, x := range map[string]struct {
		f     api.Fabric
		loads []api.Load
		items []api.Item
	}{
		"fabric": {bad, nil, nil}, "loads": {f, make([]api.Load, 17), nil}, "A": {f, []api.Load{{A: -1}}, nil}, "B": {f, []api.Load{{B: 8}}, nil}, "rate": {f, []api.Load{{Rate: 1<<30 + 1}}, nil}, "rate -1": {f, []api.Load{{Rate: -1}}, nil},
		"items": {f, nil, append(slices.Clone(items), sw(1))}, "twice": {f, nil, []api.Item{sw(1), sw(1)}}, "link": {f, nil, []api.Item{link(8)}}, "link -1": {f, nil, []api.Item{link(-1)}}, "switch": {f, nil, []api.Item{sw(8)}},
	} {
		if Valid(x.f, x.loads, x.items) {
			t.Error("Valid", name)
		}
		if e := Safe(x.f, x.loads, x.items); e != api.ErrArg {
			t.Error("Safe", name, e)
		}
		if got, e := Rounds(x.f, x.loads, x.items); e != api.ErrArg || len(got) > 0 {
			t.Error("Rounds", name, e)
		}
		if n, e := Fits(x.f, x.loads); len(x.items) == 0 && (n != 0 || e != api.ErrArg) {
			t.Error("Fits", name, e)
		}
	}
}

func TestWithout(t *testing.T) {
	f := ring(3, 1)
	f.Down[2] = true
	g := Without(f, []api.Item{link(0), sw(1)})
	if !slices.Equal(g.Down, []bool{true, false, true}) || !slices.Equal(g.Dead, []bool{false, true, false}) || f.Down[0] || f.Dead[1] {
		t.Error("Without", g)
	}
}

func TestFits(t *testing.T) {
	f := ring(3, 1)
	for _, x := range []struct {
		loads []api.Load
		n     int
		e     api.Errno
	}{
		{nil, 0, 0}, {[]api.Load{{A: 0, B: 1, Rate: 1000}}, 0, 0}, {[]api.Load{{A: 0, B: 1, Rate: 1001}}, 0, api.ErrLoad}, {[]api.Load{{A: 0, B: 0, Rate: 1 << 30}}, 0, 0}, {[]api.Load{{A: 1, B: 2, Rate: 500}, {A: 2, B: 1, Rate: 501}}, 1, api.ErrLoad}, {[]api.Load{{A: 2, B: 0, Rate: 2000}, {A: 1, B: 2, Rate: 2000}}, 1, api.ErrLoad},
	} {
		if n, e := Fits(f, x.loads); n != x.n || e != x.e {
			t.Error("Fits", x, n, e)
		}
	}
	f.Dead[2] = true
	if n, e := Fits(f, []api.Load{{A: 0, B: 1, Rate: 5000}, {A: 0, B: 2}, {A: 2, B: 1}}); n != 1 || e != api.ErrDown {
		t.Error("Fits without a way", n, e)
	}
	two := api.Fabric{Switches: 2, Links: []api.Link{{A: 0, B: 1, Capacity: 1}, {A: 0, B: 1, Capacity: 1}}, Down: make([]bool, 2), Dead: make([]bool, 2)}
	if n, e := Fits(two, []api.Load{{A: 0, B: 1, Rate: 1000}, {A: 0, B: 1, Rate: 1000}}); n != 0 || e != api.OK {
		t.Error("Fits over two links", n, e)
	}
	if n, e := Fits(two, []api.Load{{A: 0, B: 1, Rate: 1}, {A: 0, B: 1, Rate: 1000}, {A: 0, B: 1, Rate: 1}, {A: 1, B: 0, Rate: 1}}); n != 1 || e != api.ErrLoad {
		t.Error("Fits by the index of a load", n, e)
	}
	if e := Safe(two, []api.Load{{A: 0, B: 1, Rate: 600}, {A: 0, B: 1, Rate: 600}}, []api.Item{link(1)}); e != api.ErrLoad {
		t.Error("Safe", e)
	}
	if e := Safe(two, []api.Load{{A: 0, B: 1}}, []api.Item{link(1), link(0)}); e != api.ErrDown {
		t.Error("Safe of both", e)
	}
	if e := Safe(two, []api.Load{{A: 0, B: 1, Rate: 600}}, []api.Item{link(1)}); e != api.OK {
		t.Error("Safe of one", e)
	}
}

func TestRounds(t *testing.T) {
	all := []api.Load{{A: 0, B: 1, Rate: 1}, {A: 1, B: 2, Rate: 1}, {A: 2, B: 0, Rate: 1}}
	for name, x := range map[string]struct {
		f     api.Fabric
		loads []api.Load
		items []api.Item
		want  [][]api.Item
		e     api.Errno
	}{
		"ring": {ring(3, 1), all, []api.Item{link(0), link(1), link(2)}, [][]api.Item{{link(0)}, {link(1)}, {link(2)}}, 0}, "no load": {ring(3, 1), nil, []api.Item{link(2), sw(1), link(1)}, [][]api.Item{{link(2), sw(1), link(1)}}, 0}, "nothing": {ring(3, 1), all, nil, nil, 0},
		"loss": {ring(3, 1), all, []api.Item{link(0), sw(1)}, nil, api.ErrLoss}, "one load": {ring(4, 1), []api.Load{{A: 0, B: 2, Rate: 1}}, []api.Item{link(0), link(2), link(1), link(3)}, [][]api.Item{{link(0), link(1)}, {link(2), link(3)}}, 0},
	} {
		if got, e := Rounds(x.f, x.loads, x.items); e != x.e || !reflect.DeepEqual(got, x.want) {
			t.Error("Rounds", name, got, e)
		}
	}
}

// best finds the best division by trying all of them.
func best(safe []bool, left int) ([]int, bool) {
	if left == 0 {
		return nil, true
	}
	var found []int
	ok := false
	for set := range left + 1 {
		if set&^left != 0 || set&(left&-left) == 0 || !safe[set] {
			continue
		}
		if rest, fine := best(safe, left&^set); fine && (!ok || len(rest)+1 < len(found)) {
			found, ok = append([]int{set}, rest...), true
		}
	}
	return found, ok
}

func TestRoundsAreTheBest(t *testing.T) {
	r := rand.New(rand.NewSource(1))
	for range 150 {
		f := ring(4, 1)
		for range r.Intn(3) {
			a := r.Intn(4)
			f.Links, f.Down = append(f.Links, api.Link{A: a, B: (a + 1 + r.Intn(3)) % 4, Capacity: 1 + r.Intn(2)}), append(f.Down, false)
		}
		var loads []api.Load
		for range r.Intn(4) {
			loads = append(loads, api.Load{A: r.Intn(3), B: r.Intn(3), Rate: 500 * r.Intn(3)})
		}
		var items []api.Item
		for i := range f.Links {
			items = append(items, link(i))
		}
		items = append(items, sw(3))
		r.Shuffle(len(items), func(i, k int) { items[i], items[k] = items[k], items[i] })
		items = items[:r.Intn(6)]
		safe := make([]bool, 1<<len(items))
		for set := range safe {
			safe[set] = Safe(f, loads, chosen(items, set)) == api.OK
		}
		want, ok := best(safe, len(safe)-1)
		got, e := Rounds(f, loads, items)
		if ok != (e == api.OK) || !ok && e != api.ErrLoss || len(got) != len(want) {
			t.Fatal("Rounds", got, want, e)
		}
		for i, set := range want {
			if !slices.Equal(got[i], chosen(items, set)) {
				t.Fatal("Rounds", got, want)
			}
		}
	}
}

func TestSteps(t *testing.T) {
	got := Steps([][]api.Item{{link(1), sw(2)}, nil})
	want := []api.Step{{Kind: 1, Items: []api.Item{link(1), sw(2)}}, {Kind: 2, Wait: 8, Items: []api.Item{link(1), sw(2)}}, {Kind: 3, Items: []api.Item{link(1), sw(2)}}, {Kind: 4, Items: []api.Item{link(1), sw(2)}}, {Kind: 1}, {Kind: 2, Wait: 8}, {Kind: 3}, {Kind: 4}}
	if !reflect.DeepEqual(got, want) || len(Steps(nil)) != 0 {
		t.Error("Steps", got)
	}
	if w, ok := forward.Way(ring(8, 1), 0, 4, 0); !ok || len(w)+1 > api.MaxWait {
		t.Error("a frame would need more than MaxWait ticks")
	}
}
