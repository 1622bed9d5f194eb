package interval

import (
	"math/big"
	"math/rand"
	"testing"

	"exchangepoint/api"
)

func TestChoose(t *testing.T) {
	for _, x := range []struct {
		n, k, want int
		e          api.Errno
	}{{5, 2, 10, 0}, {0, 0, 1, 0}, {60, 30, 118264581564861424, 0}, {60, 60, 1, 0}, {60, 1, 60, 0}, {61, 1, 0, api.ErrArg}, {-1, 0, 0, api.ErrArg}, {5, 6, 0, api.ErrArg}, {5, -1, 0, api.ErrArg}} {
		if n, e := Choose(x.n, x.k); n != x.want || e != x.e {
			t.Error("Choose", x, n, e)
		}
	}
}

func TestCounts(t *testing.T) {
	for _, x := range []struct {
		k, least, most int
	}{{1, 5, 5}, {0, 6, 1}, {2, 1, 6}, {3, 0, 6}, {-1, 6, 0}, {1 << 62, 0, 6}, {-1 << 62, 6, 0}} {
		a, e := AtLeast(4, 2, 2, x.k)
		b, e2 := AtMost(4, 2, 2, x.k)
		if a != x.least || b != x.most || e != api.OK || e2 != api.OK {
			t.Error("AtLeast or AtMost", x, a, b)
		}
	}
	for _, x := range [][3]int{{61, 1, 1}, {-1, 0, 0}, {5, 6, 1}, {5, -1, 1}, {5, 1, 6}, {5, 1, -1}} {
		if n, e := AtLeast(x[0], x[1], x[2], 0); n != 0 || e != api.ErrArg {
			t.Error("AtLeast", x, n, e)
		}
		if n, e := AtMost(x[0], x[1], x[2], 0); n != 0 || e != api.ErrArg {
			t.Error("AtMost", x, n, e)
		}
	}
	if n, _ := AtMost(60, 30, 30, 30); n != 118264581564861424 {
		t.Error("AtMost of all", n)
	}
}

// plausible follows the definition with numbers of any size.
func plausible(pool, drawn, m, k, alpha int) bool {
	all, _ := Choose(pool, drawn)
	a, _ := AtLeast(pool, drawn, m, k)
	b, _ := AtMost(pool, drawn, m, k)
	limit := new(big.Int).Mul(big.NewInt(int64(alpha)), big.NewInt(int64(all)))
	more := func(n int) bool { return new(big.Int).Mul(big.NewInt(2000), big.NewInt(int64(n))).Cmp(limit) > 0 }
	return more(a) && more(b)
}

func TestBounds(t *testing.T) {
	r := rand.New(rand.NewSource(1))
	for i := range 400 {
		pool := r.Intn(61)
		if i%4 == 0 {
			pool = 60
		}
		drawn := r.Intn(pool + 1)
		k, alpha := r.Intn(drawn+1), 1+r.Intn(999)
		least, most, e := Bounds(pool, drawn, k, alpha)
		first, last := -1, -1
		for m := k; m <= pool-(drawn-k); m++ {
			if plausible(pool, drawn, m, k, alpha) {
				if first < 0 {
					first = m
				}
				last = m
			}
		}
		if e != api.OK || least != first || most != last {
			t.Fatal("Bounds", pool, drawn, k, alpha, least, most, first, last)
		}
	}
	for _, x := range [][4]int{{61, 1, 1, 5}, {5, 6, 1, 5}, {5, 2, 3, 5}, {5, 2, -1, 5}, {5, 2, 1, 0}, {5, 2, 1, 1000}, {-1, -1, 0, 5}} {
		if a, b, e := Bounds(x[0], x[1], x[2], x[3]); a != 0 || b != 0 || e != api.ErrArg {
			t.Error("Bounds", x, a, b, e)
		}
	}
	if a, b, _ := Bounds(20, 20, 7, 50); a != 7 || b != 7 {
		t.Error("Bounds with everything drawn", a, b)
	}
	if a, b, e := Bounds(20, 0, 0, 999); a != 0 || b != 20 || e != api.OK {
		t.Error("Bounds with nothing drawn", a, b, e)
	}
}

func TestCover(t *testing.T) {
	for pool := range 15 {
		for drawn := range pool + 1 {
			for marked := range pool + 1 {
				for _, alpha := range []int{1, 50, 200, 500, 999} {
					n, all, e := Cover(pool, drawn, marked, alpha)
					want := 0
					for k := range drawn + 1 {
						if a, b, _ := Bounds(pool, drawn, k, alpha); a <= marked && marked <= b {
							x, _ := AtLeast(pool, drawn, marked, k)
							y, _ := AtLeast(pool, drawn, marked, k+1)
							want += x - y
						}
					}
					sets, _ := Choose(pool, drawn)
					if e != api.OK || n != want || all != sets || 1000*n < (1000-alpha)*all {
						t.Fatal("Cover", pool, drawn, marked, alpha, n, want, all)
					}
				}
			}
		}
	}
	if n, all, e := Cover(60, 30, 30, 50); e != api.OK || all != 118264581564861424 || n > all || n < all/1000*950 {
		t.Error("Cover of many", n, all, e)
	}
	for _, x := range [][4]int{{61, 1, 1, 5}, {5, 6, 1, 5}, {5, 2, 6, 5}, {5, 2, -1, 5}, {5, 2, 1, 0}, {5, 2, 1, 1000}} {
		if a, b, e := Cover(x[0], x[1], x[2], x[3]); a != 0 || b != 0 || e != api.ErrArg {
			t.Error("Cover", x, a, b, e)
		}
	}
}

func TestBoundsGrow(t *testing.T) {
	for drawn := range 25 {
		for _, alpha := range []int{10, 100, 500} {
			lastLeast, lastMost := 0, 0
			for k := range drawn + 1 {
				least, most, _ := Bounds(24, drawn, k, alpha)
				wideLeast, wideMost, _ := Bounds(24, drawn, k, alpha-9)
				if least < lastLeast || most < lastMost || wideLeast > least || wideMost < most {
					t.Fatal("Bounds", drawn, k, alpha)
				}
				lastLeast, lastMost = least, most
			}
		}
	}
}
