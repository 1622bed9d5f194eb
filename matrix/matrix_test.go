package matrix

import (
	"math/rand"
	"slices"
	"testing"

	"exchangepoint/api"
)

func cell(from, to, samples, bytes int) api.Cell {
	return api.Cell{From: from, To: to, Samples: samples, Bytes: bytes}
}

func many(n int) []api.Cell {
	var out []api.Cell
	for i := range n {
		out = append(out, cell(1+i/40, 1+i%40, 1, 1))
	}
	return out
}

func samples(l ...[3]int) []api.Sample {
	var out []api.Sample
	for i, x := range l {
		out = append(out, api.Sample{Seq: i, Pool: i, In: x[0], Out: x[1], Bytes: x[2]})
	}
	return out
}

func TestValid(t *testing.T) {
	if !Valid(nil) || !Valid(many(1024)) || !Valid([]api.Cell{cell(1, api.MaxASN, 1<<40, 1<<50), cell(api.MaxASN, 1, 1, 0)}) {
		t.Error("valid matrices")
	}
	for _, l := range [][]api.Cell{many(1025), {cell(0, 1, 1, 1)}, {cell(1, 0, 1, 1)}, {cell(1<<32, 1, 1, 1)}, {cell(1, 1<<32, 1, 1)}, {cell(1, 1, 0, 1)}, {cell(1, 1, 1<<40+1, 1)}, {cell(1, 1, 1, -1)}, {cell(1, 1, 1, 1<<50+1)}, {cell(1, 1, 1, 1), cell(1, 1, 1, 1)}, {cell(1, 2, 1, 1), cell(1, 1, 1, 1)}, {cell(2, 1, 1, 1), cell(1, 2, 1, 1)}} {
		if Valid(l) {
			t.Error("Valid", l)
		}
		if got, e := Add(l, nil); e != api.ErrArg || len(got) > 0 {
			t.Error("Add to an invalid matrix", e)
		}
		if _, e := Add(nil, l); e != api.ErrArg {
			t.Error("Add of an invalid matrix", e)
		}
	}
}

func TestCells(t *testing.T) {
	rules := []api.Rule{{Port: 1, ASN: 64500}, {Port: 2, ASN: 64501}, {Port: 3, ASN: 64500}, {Port: 1, ASN: 9}, {Port: 4}, {Port: 5, ASN: 1 << 32}}
	got, e := Cells(samples([3]int{1, 2, 100}, [3]int{3, 2, 300}, [3]int{2, 1, 7}, [3]int{1, 3, 0}), rules)
	if e != api.OK || !slices.Equal(got, []api.Cell{cell(64500, 64500, 1, 0), cell(64500, 64501, 2, 400), cell(64501, 64500, 1, 7)}) {
		t.Error("Cells", got, e)
	}
	if got, e := Cells(nil, nil); e != api.OK || len(got) != 0 {
		t.Error("Cells of nothing", got, e)
	}
	for name, x := range map[string]struct {
		l    []api.Sample
		want api.Errno
	}{"samples": {samples([3]int{0, 9, 1}), api.ErrArg}, "port": {samples([3]int{4, 1, 1}, [3]int{1, 9, 1}), api.ErrNone}, "in": {samples([3]int{9, 1, 1}), api.ErrNone}, "ASN 0": {samples([3]int{1, 4, 1}), api.ErrArg}, "ASN": {samples([3]int{5, 1, 1}), api.ErrArg}} {
		if got, e := Cells(x.l, rules); e != x.want || len(got) > 0 {
			t.Error("Cells", name, e)
		}
	}
}

func TestAdd(t *testing.T) {
	got, e := Add([]api.Cell{cell(1, 2, 3, 4), cell(2, 1, 1, 1)}, []api.Cell{cell(1, 1, 5, 5), cell(1, 2, 10, 20)})
	if e != api.OK || !slices.Equal(got, []api.Cell{cell(1, 1, 5, 5), cell(1, 2, 13, 24), cell(2, 1, 1, 1)}) {
		t.Error("Add", got, e)
	}
	for _, x := range [][2][]api.Cell{{many(1024), {cell(5000, 1, 1, 1)}}, {{cell(1, 1, 1<<40, 1)}, {cell(1, 1, 1, 1)}}, {{cell(1, 1, 1, 1<<50)}, {cell(1, 1, 1, 1)}}} {
		if got, e := Add(x[0], x[1]); e != api.ErrLimit || len(got) > 0 {
			t.Error("Add beyond the limit", e)
		}
	}
}

func TestSums(t *testing.T) {
	l := []api.Cell{cell(1, 2, 3, 4), cell(1, 3, 10, 20), cell(2, 3, 100, 200)}
	for name, x := range map[string]struct {
		f func() (int, int)
		n int
		b int
	}{
		"total": {func() (int, int) { return Total(l) }, 113, 224}, "from": {func() (int, int) { return From(l, 1) }, 13, 24}, "to": {func() (int, int) { return To(l, 3) }, 110, 220}, "from none": {func() (int, int) { return From(l, 3) }, 0, 0}, "to none": {func() (int, int) { return To(l, 1) }, 0, 0}, "nothing": {func() (int, int) { return Total(nil) }, 0, 0},
	} {
		if n, b := x.f(); n != x.n || b != x.b {
			t.Error(name, n, b)
		}
	}
}

func TestEstimate(t *testing.T) {
	for _, x := range []struct {
		c             api.Cell
		samples, pool int
		want          int
		e             api.Errno
	}{
		{cell(0, 0, 2, 400), 2, 1000, 200000, 0}, {cell(0, 0, 1, 10), 3, 10, 33, 0}, {cell(0, 0, 0, 0), 1, 1, 0, 0}, {cell(0, 0, 1, 1<<30), 1 << 20, 1 << 40, 1 << 50, 0}, {cell(0, 0, 1, 1<<30), 1<<20 - 1, 1 << 40, 0, api.ErrLimit}, {cell(0, 0, 1, 1<<30), 1, 1 << 40, 0, api.ErrLimit}, {cell(0, 0, 1, 1<<30), 63, 1 << 40, 0, api.ErrLimit}, {cell(0, 0, 1, 1<<10+1), 1, 1 << 40, 0, api.ErrLimit}, {cell(0, 0, 1, 1<<10), 1, 1 << 40, 1 << 50, 0},
		{cell(0, 0, 0, 0), 0, 5, 0, api.ErrArg}, {cell(0, 0, 0, 0), 1<<20 + 1, 1 << 30, 0, api.ErrArg}, {cell(0, 0, 0, 0), 5, 4, 0, api.ErrArg}, {cell(0, 0, 0, 0), 5, 1<<40 + 1, 0, api.ErrArg}, {cell(0, 0, 6, 0), 5, 5, 0, api.ErrArg}, {cell(0, 0, -1, 0), 5, 5, 0, api.ErrArg}, {cell(0, 0, 1, -1), 5, 5, 0, api.ErrArg}, {cell(0, 0, 1, 1<<30+1), 5, 5, 0, api.ErrArg},
	} {
		if n, e := Estimate(x.c, x.samples, x.pool); n != x.want || e != x.e {
			t.Error("Estimate", x, n, e)
		}
	}
}

// The matrix of two spans is the sum of their matrices, and estimates add up.
func TestSumOfSpans(t *testing.T) {
	r := rand.New(rand.NewSource(1))
	rules := []api.Rule{{Port: 1, ASN: 10}, {Port: 2, ASN: 20}, {Port: 3, ASN: 30}}
	for range 200 {
		var l []api.Sample
		for i := range 1 + r.Intn(30) {
			l = append(l, api.Sample{Seq: i, Pool: i, In: 1 + r.Intn(3), Out: 1 + r.Intn(3), Bytes: r.Intn(1500)})
		}
		cut := r.Intn(len(l) + 1)
		a, _ := Cells(l[:cut], rules)
		b, _ := Cells(l[cut:], rules)
		all, _ := Cells(l, rules)
		if got, e := Add(a, b); e != api.OK || !slices.Equal(got, all) {
			t.Fatal("Add", got, all)
		}
		samples, bytes := Total(all)
		pool := samples + r.Intn(1000)
		whole, _ := Estimate(cell(0, 0, samples, bytes), samples, pool)
		parts := 0
		for _, c := range all {
			n, _ := Estimate(c, samples, pool)
			parts += n
		}
		if parts > whole || parts <= whole-len(all) {
			t.Fatal("estimates", parts, whole)
		}
	}
}
