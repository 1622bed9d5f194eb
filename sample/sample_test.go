package sample

import (
	"math/rand"
	"slices"
	"testing"

	"exchangepoint/api"
)

func at(seq, pool, tick int) api.Sample {
	return api.Sample{Tick: tick, Seq: seq, Pool: pool, In: 1, Out: 2, Bytes: 100}
}

func many(n int) []api.Sample {
	var out []api.Sample
	for i := range n {
		out = append(out, at(i, i, 0))
	}
	return out
}

func TestPick(t *testing.T) {
	for _, x := range []struct {
		n, ratio, first int
		want            []int
		e               api.Errno
	}{
		{10, 4, 1, []int{1, 5, 9}, 0}, {9, 4, 1, []int{1, 5}, 0}, {0, 1, 0, nil, 0}, {3, 5, 4, nil, 0}, {3, 1, 0, []int{0, 1, 2}, 0}, {-1, 1, 0, nil, api.ErrArg}, {1<<30 + 1, 1 << 20, 0, nil, api.ErrArg}, {1, 0, 0, nil, api.ErrArg}, {1, 1<<20 + 1, 0, nil, api.ErrArg}, {1, 2, 2, nil, api.ErrArg}, {1, 2, -1, nil, api.ErrArg}, {1001, 1, 0, nil, api.ErrArg}, {1 << 30, 1 << 20, 0, nil, api.ErrArg},
	} {
		if got, e := Pick(x.n, x.ratio, x.first); e != x.e || !slices.Equal(got, x.want) {
			t.Error("Pick", x.n, x.ratio, x.first, len(got), e)
		}
	}
	if got, e := Pick(2000, 2, 0); e != api.OK || len(got) != 1000 {
		t.Error("Pick at the limit", len(got), e)
	}
	if got, e := Pick(1000*(1<<20), 1<<20, 1<<20-1); e != api.OK || len(got) != 1000 || got[999] != 1000*(1<<20)-1 {
		t.Error("Pick of many", len(got), e)
	}
}

func TestValid(t *testing.T) {
	if !Valid(nil) || !Valid(many(1000)) || !Valid([]api.Sample{{In: 999, Out: 999, Bytes: 65535, Tick: api.MaxTick, Seq: 1 << 40, Pool: 1 << 40}}) || !Valid([]api.Sample{at(1, 5, 3), at(3, 7, 3), at(4, 100, 9)}) {
		t.Error("valid lists")
	}
	for _, l := range [][]api.Sample{many(1001), {at(-1, 0, 0)}, {at(0, -1, 0)}, {at(0, 0, -1)}, {at(1<<40+1, 0, 0)}, {at(0, 1<<40+1, 0)}, {at(0, 0, api.MaxTick+1)}, {{In: 0, Out: 1}}, {{In: 1, Out: 0}}, {{In: 1000, Out: 1}}, {{In: 1, Out: 1000}}, {{In: 1, Out: 1, Bytes: -1}}, {{In: 1, Out: 1, Bytes: 65536}}, {at(1, 1, 1), at(1, 2, 1)}, {at(1, 1, 1), at(3, 2, 1)}, {at(1, 1, 1), at(2, 2, 0)}, {at(2, 1, 1), at(1, 2, 1)}} {
		if Valid(l) {
			t.Error("Valid", len(l), l[0])
		}
		if got, e := Merge(l, nil); e != api.ErrArg || len(got) > 0 {
			t.Error("Merge of an invalid list", e)
		}
		if _, e := Merge(nil, l); e != api.ErrArg {
			t.Error("Merge with an invalid list", e)
		}
	}
}

func TestLostAndSpan(t *testing.T) {
	l := []api.Sample{at(3, 10, 0), at(4, 20, 0), at(9, 40, 0)}
	if Lost(l) != 4 || Span(l) != 31 || Lost(l[:1]) != 0 || Span(l[:1]) != 1 || Lost(nil) != 0 || Span(nil) != 0 {
		t.Error("Lost or Span")
	}
}

func TestMerge(t *testing.T) {
	a, b := []api.Sample{at(1, 10, 1), at(5, 50, 5)}, []api.Sample{at(1, 10, 1), at(3, 30, 3), at(7, 70, 7)}
	want := []api.Sample{at(1, 10, 1), at(3, 30, 3), at(5, 50, 5), at(7, 70, 7)}
	for _, x := range [][2][]api.Sample{{a, b}, {b, a}} {
		if got, e := Merge(x[0], x[1]); e != api.OK || !slices.Equal(got, want) {
			t.Error("Merge", got, e)
		}
	}
	if got, e := Merge(b, b); e != api.OK || !slices.Equal(got, b) {
		t.Error("Merge with itself", got, e)
	}
	second := many(1001)[1:]
	second[3].Bytes++
	for name, x := range map[string]struct {
		a, b []api.Sample
		want api.Errno
	}{"exists": {a, []api.Sample{at(5, 51, 5)}, api.ErrExists}, "exists ahead of limit": {many(1000), second, api.ErrExists}, "limit": {many(1000), []api.Sample{at(1000, 999, 0)}, api.ErrLimit}, "order": {a, []api.Sample{at(3, 30, 9)}, api.ErrOrder}, "pool": {a, []api.Sample{at(3, 11, 3)}, api.ErrOrder}} {
		if got, e := Merge(x.a, x.b); e != x.want || len(got) > 0 {
			t.Error("Merge", name, e)
		}
	}
}

func TestBetween(t *testing.T) {
	l := []api.Sample{at(1, 1, 4), at(2, 2, 5), at(3, 3, 7), at(4, 4, 8)}
	if got := Between(l, 5, 8); !slices.Equal(got, l[1:3]) {
		t.Error("Between", got)
	}
	if len(Between(l, 5, 5)) != 0 || len(Between(l, 0, -1<<63)) != 0 {
		t.Error("Between of nothing")
	}
}

func TestPickCounts(t *testing.T) {
	r := rand.New(rand.NewSource(1))
	for range 500 {
		n, ratio := r.Intn(900), 1+r.Intn(20)
		got, e := Pick(n, ratio, r.Intn(ratio))
		if d := len(got)*ratio - n; e != api.OK || d >= ratio || d <= -ratio || len(got) > 0 && got[len(got)-1]-got[0]+1 > n {
			t.Fatal("Pick", n, ratio, got)
		}
	}
}
