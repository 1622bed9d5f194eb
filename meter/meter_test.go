package meter

import (
	"math/rand"
	"slices"
	"testing"

	"exchangepoint/api"
)

func TestNewAndValid(t *testing.T) {
	if b := New(3, 7); b != (api.Bucket{Level: 7, Rate: 3, Burst: 7}) || !Valid(b) || !Valid(New(0, 0)) || !Valid(New(api.MaxRate, api.MaxRate)) {
		t.Error("New", b)
	}
	for _, b := range []api.Bucket{{Burst: -1}, {Burst: api.MaxRate + 1}, {Rate: 2, Burst: 1}, {Rate: -1, Burst: 1}, {Level: 2, Burst: 1}, {Level: -1, Burst: 1}} {
		if Valid(b) {
			t.Error("Valid", b)
		}
	}
}

func TestTickAndTake(t *testing.T) {
	b := api.Bucket{Level: 0, Rate: 3, Burst: 5}
	if c, ok := Take(b); ok || c != b {
		t.Error("Take of nothing", c, ok)
	}
	b = Tick(b)
	if b.Level != 3 || Tick(b).Level != 5 {
		t.Error("Tick", b)
	}
	if c, ok := Take(b); !ok || c != (api.Bucket{Level: 2, Rate: 3, Burst: 5}) {
		t.Error("Take", c, ok)
	}
}

func TestRun(t *testing.T) {
	if b, l := Run(New(1, 2), []int{5, 5, 5}); !slices.Equal(l, []int{2, 1, 1}) || b.Level != 1 {
		t.Error("Run", b, l)
	}
	if b, l := Run(New(1, 2), []int{-5, 1 << 62, 0, 1}); !slices.Equal(l, []int{0, 2, 0, 1}) || b.Level != 2 {
		t.Error("Run", b, l)
	}
	if b, l := Run(New(1, 2), nil); len(l) != 0 || b != New(1, 2) {
		t.Error("Run of nothing", b, l)
	}
	r := rand.New(rand.NewSource(1))
	for range 200 {
		burst := r.Intn(9)
		first := New(r.Intn(burst+1), burst)
		var arrivals []int
		for range 20 {
			arrivals = append(arrivals, r.Intn(7)-1)
		}
		last, l := Run(first, arrivals)
		b := first
		for i, n := range arrivals {
			granted := 0
			for range max(n, 0) {
				var ok bool
				if b, ok = Take(b); ok {
					granted++
				}
			}
			b = Tick(b)
			if l[i] != granted {
				t.Fatal("Run is not Takes and Ticks", first, arrivals)
			}
		}
		if b != last || !Valid(b) {
			t.Fatal("Run", first, b, last)
		}
	}
}
