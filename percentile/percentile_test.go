package percentile

import (
	"math/rand"
	"reflect"
	"slices"
	"testing"

	"exchangepoint/api"
)

func series(in, out []int) api.Series {
	return api.Series{Port: 1, Seconds: 300, In: in, Out: out}
}

func TestValid(t *testing.T) {
	big := make([]int, api.MaxBins)
	if !Valid(series(nil, nil)) || !Valid(series(big, big)) || !Valid(api.Series{Port: 999, Seconds: 86400, In: []int{-1, api.MaxBin}, Out: []int{-1, 0}}) {
		t.Error("valid series")
	}
	bigger := make([]int, api.MaxBins+1)
	for _, s := range []api.Series{{Port: 0, Seconds: 1}, {Port: 1000, Seconds: 1}, {Port: 1}, {Port: 1, Seconds: 86401}, series([]int{1}, nil), series(bigger, bigger), series([]int{-2}, []int{1}), series([]int{1}, []int{-2}), series([]int{api.MaxBin + 1}, []int{1}), series([]int{1}, []int{api.MaxBin + 1}), series([]int{-1}, []int{1}), series([]int{1}, []int{-1})} {
		if Valid(s) {
			t.Error("Valid", s.Port, len(s.In))
		}
		if _, e := Used(s, 0); e != api.ErrArg {
			t.Error("Used", e)
		}
		if got, e := Merge(s, series(nil, nil)); e != api.ErrArg || !reflect.DeepEqual(got, api.Series{}) {
			t.Error("Merge", e)
		}
		if _, e := Merge(series(nil, nil), s); e != api.ErrArg {
			t.Error("Merge", e)
		}
		if _, e := Put(s, -1, 0, 0); e != api.ErrArg {
			t.Error("Put", e)
		}
	}
}

func TestRate(t *testing.T) {
	for _, x := range []struct {
		bytes, seconds, want int
		e                    api.Errno
	}{{37500000, 300, 1, 0}, {37500001, 300, 2, 0}, {0, 1, 0, 0}, {1, 86400, 1, 0}, {api.MaxBin, 1, 9007199255, 0}, {-1, 1, 0, api.ErrArg}, {api.MaxBin + 1, 1, 0, api.ErrArg}, {1, 0, 0, api.ErrArg}, {1, 86401, 0, api.ErrArg}} {
		if n, e := Rate(x.bytes, x.seconds); n != x.want || e != x.e {
			t.Error("Rate", x, n, e)
		}
	}
	if l, e := Rates([]int{37500001, -1, 0, 37500000}, 300); e != api.OK || !slices.Equal(l, []int{2, 0, 1}) {
		t.Error("Rates", l, e)
	}
	for _, x := range []struct {
		l       []int
		seconds int
		want    api.Errno
	}{{nil, 0, api.ErrArg}, {[]int{-1}, 86401, api.ErrArg}, {[]int{1, -2}, 1, api.ErrArg}, {[]int{-1}, 1, api.OK}} {
		if l, e := Rates(x.l, x.seconds); e != x.want || len(l) > 0 {
			t.Error("Rates", x, e)
		}
	}
}

func TestPercentile(t *testing.T) {
	var twenty []int
	for i := range 20 {
		twenty = append(twenty, 20-i)
	}
	for _, x := range []struct {
		l       []int
		p, want int
		e       api.Errno
	}{
		{twenty, 95, 19, 0}, {twenty, 96, 20, 0}, {twenty, 100, 20, 0}, {twenty, 1, 1, 0}, {twenty, 5, 1, 0}, {twenty, 6, 2, 0}, {[]int{7}, 1, 7, 0}, {[]int{-5, 3}, 50, -5, 0}, {make([]int, api.MaxBins), 50, 0, 0}, {nil, 95, 0, api.ErrGap}, {nil, 0, 0, api.ErrArg}, {twenty, 101, 0, api.ErrArg}, {make([]int, api.MaxBins+1), 50, 0, api.ErrArg},
	} {
		if n, e := Percentile(x.l, x.p); n != x.want || e != x.e {
			t.Error("Percentile", len(x.l), x.p, n, e)
		}
	}
	if twenty[0] != 20 {
		t.Error("Percentile has sorted its argument")
	}
}

func TestUsed(t *testing.T) {
	const m = 37500000
	for _, x := range []struct {
		s       api.Series
		p, want int
		e       api.Errno
	}{{series([]int{m, 3 * m, -1}, []int{2 * m, 2 * m, -1}), 50, 2, 0}, {series([]int{m, 3 * m, -1}, []int{2 * m, 2 * m, -1}), 95, 3, 0}, {series([]int{-1}, []int{-1}), 95, 0, api.ErrGap}, {series(nil, nil), 95, 0, api.ErrGap}, {series(nil, nil), 0, 0, api.ErrArg}, {series([]int{1}, []int{1}), 101, 0, api.ErrArg}} {
		if n, e := Used(x.s, x.p); n != x.want || e != x.e {
			t.Error("Used", x, n, e)
		}
	}
}

func TestMerge(t *testing.T) {
	a, b := series([]int{1, -1, 3, -1}, []int{5, -1, 7, -1}), series([]int{-1, 2, 3, -1}, []int{-1, 6, 7, -1})
	want := series([]int{1, 2, 3, -1}, []int{5, 6, 7, -1})
	for _, x := range [][2]api.Series{{a, b}, {b, a}} {
		if got, e := Merge(x[0], x[1]); e != api.OK || !reflect.DeepEqual(got, want) {
			t.Error("Merge", got, e)
		}
	}
	port, seconds := a, a
	port.Port, seconds.Seconds = 2, 60
	for name, x := range map[string]struct {
		s    api.Series
		want api.Errno
	}{"port": {port, api.ErrNone}, "seconds": {seconds, api.ErrNone}, "length": {series([]int{2, -1, 3}, []int{5, -1, 7}), api.ErrNone}, "in": {series([]int{2, -1, 3, 4}, []int{5, -1, 7, 4}), api.ErrExists}, "out": {series([]int{1, -1, 3, 4}, []int{6, -1, 7, 4}), api.ErrExists}} {
		if got, e := Merge(a, x.s); e != x.want || !reflect.DeepEqual(got, api.Series{}) {
			t.Error("Merge", name, e)
		}
	}
}

func TestPut(t *testing.T) {
	s := series([]int{1, 2}, []int{3, 4})
	for _, x := range []struct {
		at, in, out int
		want        api.Series
		e           api.Errno
	}{
		{0, 9, 8, series([]int{9, 2}, []int{8, 4}), 0}, {2, 9, 8, series([]int{1, 2, 9}, []int{3, 4, 8}), 0}, {1, -1, -1, series([]int{1, -1}, []int{3, -1}), 0}, {3, 1, 1, api.Series{}, api.ErrRange}, {-1, 1, 1, api.Series{}, api.ErrRange}, {3, -5, 1, api.Series{}, api.ErrRange}, {0, -1, 1, api.Series{}, api.ErrArg}, {0, api.MaxBin + 1, 1, api.Series{}, api.ErrArg}, {2, 1, -2, api.Series{}, api.ErrArg},
	} {
		if got, e := Put(s, x.at, x.in, x.out); e != x.e || !reflect.DeepEqual(got, x.want) {
			t.Error("Put", x, got, e)
		}
	}
	big := make([]int, api.MaxBins)
	if _, e := Put(series(big, big), api.MaxBins, 0, 0); e != api.ErrArg {
		t.Error("Put beyond the limit", e)
	}
	if !slices.Equal(s.In, []int{1, 2}) {
		t.Error("Put has changed its argument")
	}
}

// At most n - rank intervals have a rate greater than Used in a direction; the order does not matter.
func TestUsedIsARank(t *testing.T) {
	r := rand.New(rand.NewSource(1))
	for range 200 {
		var s api.Series
		s.Port, s.Seconds = 1, 1
		for range 1 + r.Intn(30) {
			s.In, s.Out = append(s.In, r.Intn(1<<24)), append(s.Out, r.Intn(1<<24))
		}
		used, _ := Used(s, 95)
		n := len(s.In)
		for _, l := range [][]int{s.In, s.Out} {
			above := 0
			for _, x := range l {
				if rate, _ := Rate(x, 1); rate > used {
					above++
				}
			}
			if above > n-(95*n+99)/100 {
				t.Fatal("Used", s, used)
			}
		}
		slices.Reverse(s.In)
		slices.Sort(s.Out)
		if again, _ := Used(s, 95); again != used {
			t.Fatal("Used depends on the order")
		}
	}
}
