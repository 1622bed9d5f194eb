package fabric

import (
	"math/rand"
	"slices"
	"testing"

	"exchangepoint/api"
)

func make3() api.Fabric {
	return api.Fabric{Switches: 3, Links: []api.Link{{A: 0, B: 1, Capacity: 1}, {A: 1, B: 2, Capacity: 1}, {A: 2, B: 0, Capacity: 1}}, Down: make([]bool, 3), Dead: make([]bool, 3)}
}

func TestValid(t *testing.T) {
	if !Valid(make3()) || !Valid(api.Fabric{Switches: 1, Dead: make([]bool, 1)}) {
		t.Error("valid fabrics")
	}
	for name, change := range map[string]func(f *api.Fabric){
		"switches": func(f *api.Fabric) { f.Switches = 9; f.Dead = make([]bool, 9) }, "no switches": func(f *api.Fabric) { f.Switches = 0; f.Dead = nil; f.Links = nil; f.Down = nil },
		"links":      func(f *api.Fabric) { f.Links = slices.Repeat(f.Links[:1], 25); f.Down = make([]bool, 25) },
		"ends":       func(f *api.Fabric) { f.Links[0].B = 0 },
		"A":          func(f *api.Fabric) { f.Links[0].A = -1 },
		"B":          func(f *api.Fabric) { f.Links[0].B = 3 },
		"capacity 0": func(f *api.Fabric) { f.Links[0].Capacity = 0 },
		"capacity":   func(f *api.Fabric) { f.Links[0].Capacity = api.MaxRate + 1 },
		"down":       func(f *api.Fabric) { f.Down = f.Down[1:] },
		"dead":       func(f *api.Fabric) { f.Dead = append(f.Dead, false) },
	} {
		f := make3()
		change(&f)
		if Valid(f) {
			t.Error("Valid", name)
		}
	}
	f := make3()
	f.Links = slices.Repeat(f.Links, 8)
	f.Down = make([]bool, 24)
	f.Links[0].Capacity = api.MaxRate
	if !Valid(f) {
		t.Error("a fabric at the limits")
	}
}

func TestWorks(t *testing.T) {
	f := make3()
	f.Down[0] = true
	f.Dead[0] = true
	for i, want := range map[int]bool{0: false, 1: true, 2: false, 3: false, -1: false} {
		if Works(f, i) != want {
			t.Error("Works", i)
		}
	}
}

func TestDistances(t *testing.T) {
	f := api.Fabric{Switches: 5, Links: []api.Link{{A: 0, B: 1, Capacity: 1}, {A: 2, B: 1, Capacity: 1}, {A: 2, B: 3, Capacity: 1}, {A: 3, B: 0, Capacity: 1}}, Down: make([]bool, 4), Dead: make([]bool, 5)}
	if d := Distances(f, 0); !slices.Equal(d, []int{0, 1, 2, 1, -1}) {
		t.Error("Distances", d)
	}
	if p := Parts(f); !slices.Equal(p, []int{0, 0, 0, 0, 4}) {
		t.Error("Parts", p)
	}
	f.Down[0] = true
	if d := Distances(f, 0); !slices.Equal(d, []int{0, 3, 2, 1, -1}) {
		t.Error("Distances with a link down", d)
	}
	f.Dead[3] = true
	if d := Distances(f, 0); !slices.Equal(d, []int{0, -1, -1, -1, -1}) {
		t.Error("Distances with a dead switch", d)
	}
	if p := Parts(f); !slices.Equal(p, []int{0, 1, 1, -1, 4}) {
		t.Error("Parts with a dead switch", p)
	}
	for _, to := range []int{3, 5, -1} {
		if d := Distances(f, to); !slices.Equal(d, []int{-1, -1, -1, -1, -1}) {
			t.Error("Distances to", to, d)
		}
	}
}

func TestCutsAndFlow(t *testing.T) {
	f := make3()
	if len(Cuts(f)) != 0 || Flow(f, 0, 1) != 2 || Flow(f, 0, 0) != 0 || Flow(f, 0, 3) != 0 || Flow(f, -1, 0) != 0 {
		t.Error("a ring")
	}
	f.Down[1] = true
	if !slices.Equal(Cuts(f), []int{0, 2}) || Flow(f, 1, 2) != 1 {
		t.Error("a ring with a link down", Cuts(f))
	}
	f.Dead[0] = true
	if len(Cuts(f)) != 0 || Flow(f, 0, 1) != 0 || Flow(f, 1, 2) != 0 {
		t.Error("a ring with a dead switch")
	}
	two := api.Fabric{Switches: 2, Links: []api.Link{{A: 0, B: 1, Capacity: 5}, {A: 1, B: 0, Capacity: 7}}, Down: make([]bool, 2), Dead: make([]bool, 2)}
	if len(Cuts(two)) != 0 || Flow(two, 1, 0) != 12 {
		t.Error("two links between the same switches")
	}
}

// least returns the least sum of capacities between two sides, one with a and one with b.
func least(f api.Fabric, a, b int) int {
	best := 1 << 60
	for side := range 1 << f.Switches {
		if side>>a&1 == 0 || side>>b&1 == 1 {
			continue
		}
		sum := 0
		for i, l := range f.Links {
			if Works(f, i) && side>>l.A&1 != side>>l.B&1 {
				sum += l.Capacity
			}
		}
		best = min(best, sum)
	}
	return best
}

func TestFlowIsLeastCut(t *testing.T) {
	r := rand.New(rand.NewSource(1))
	for range 300 {
		f := api.Fabric{Switches: 2 + r.Intn(5)}
		f.Dead = make([]bool, f.Switches)
		for range r.Intn(12) {
			a := r.Intn(f.Switches)
			f.Links = append(f.Links, api.Link{A: a, B: (a + 1 + r.Intn(f.Switches-1)) % f.Switches, Capacity: 1 + r.Intn(9)})
			f.Down = append(f.Down, r.Intn(5) == 0)
		}
		f.Dead[r.Intn(f.Switches)] = r.Intn(3) == 0
		for a := range f.Switches {
			for b := range f.Switches {
				want := 0
				if a != b && !f.Dead[a] && !f.Dead[b] {
					want = least(f, a, b)
				}
				if Flow(f, a, b) != want {
					t.Fatal("Flow", f, a, b, Flow(f, a, b), want)
				}
			}
		}
		for _, i := range Cuts(f) {
			l := f.Links[i]
			if Flow(f, l.A, l.B) != l.Capacity {
				t.Fatal("Cuts", f, i)
			}
		}
	}
}
