package aspath

import (
	"reflect"
	"slices"
	"strings"
	"testing"

	"exchangepoint/api"
)

func seq(l ...int) api.Segment { return api.Segment{ASNs: l} }
func set(l ...int) api.Segment { return api.Segment{Set: true, ASNs: l} }

func path(l ...api.Segment) []api.Segment { return l }

func long(n int) []int { return slices.Repeat([]int{7}, n) }

var invalid = [][]api.Segment{path(seq()), path(set()), path(seq(0)), path(seq(1 << 32)), path(seq(-1)), path(set(2, 1)), path(set(1, 1)), path(seq(1), seq(2)), path(seq(long(65)...)), path(seq(long(64)...), set(1))}

func TestValid(t *testing.T) {
	for _, p := range [][]api.Segment{nil, path(seq(1, 1, 1<<32-1)), path(set(1, 2), set(1), seq(3)), path(seq(long(64)...))} {
		if !Valid(p) {
			t.Error("Valid", p)
		}
	}
	for _, p := range invalid {
		if Valid(p) || Print(p) != "" {
			t.Error("Valid or Print", p)
		}
		if _, ok := First(p); ok {
			t.Error("First of an invalid one", p)
		}
		if _, ok := Origin(p); ok {
			t.Error("Origin of an invalid one", p)
		}
		if q, e := Prepend(p, 1, 100); e != api.ErrArg || len(q) > 0 {
			t.Error("Prepend to an invalid one", e)
		}
	}
}

func TestParts(t *testing.T) {
	p := path(seq(65001, 65002), set(7, 9), seq(4))
	if Length(p) != 4 || !slices.Equal(Flat(p), []int{65001, 65002, 7, 9, 4}) || !Has(p, 9) || !Has(p, 65001) || Has(p, 8) {
		t.Error("Length, Flat or Has")
	}
	if Length(path(set(), seq(), seq(1))) != 2 || Length(nil) != 0 || len(Flat(nil)) != 0 {
		t.Error("Length or Flat of other lists")
	}
	for _, x := range []struct {
		p             []api.Segment
		first, origin int
	}{{p, 65001, 4}, {p[:2], 65001, 0}, {p[1:], 0, 4}, {p[1:2], 0, 0}, {nil, 0, 0}} {
		n, ok := First(x.p)
		m, ok2 := Origin(x.p)
		if n != x.first || ok != (n != 0) || m != x.origin || ok2 != (m != 0) {
			t.Error("First or Origin", x.p, n, ok, m, ok2)
		}
	}
}

func TestPrepend(t *testing.T) {
	for _, x := range []struct {
		p      []api.Segment
		asn, n int
		want   []api.Segment
		e      api.Errno
	}{
		{path(seq(1)), 2, 3, path(seq(2, 2, 2, 1)), 0}, {path(set(1)), 2, 1, path(seq(2), set(1)), 0}, {nil, 2, 2, path(seq(2, 2)), 0}, {nil, 2, 0, nil, 0}, {path(set(1)), 2, 0, path(set(1)), 0},
		{path(seq(1)), 2, 63, path(seq(append(slices.Repeat([]int{2}, 63), 1)...)), 0}, {path(seq(1)), 2, 64, nil, api.ErrLimit}, {path(seq(1)), 2, 1<<63 - 1, nil, api.ErrLimit},
		{nil, 0, 1, nil, api.ErrArg}, {nil, 1 << 32, 1, nil, api.ErrArg}, {nil, 1, -1, nil, api.ErrArg},
	} {
		if q, e := Prepend(x.p, x.asn, x.n); e != x.e || !reflect.DeepEqual(q, x.want) {
			t.Error("Prepend", x.p, x.asn, x.n, q, e)
		}
	}
}

func TestReserved(t *testing.T) {
	for n, want := range map[int]bool{0: true, 1: false, 23455: false, 23456: true, 23457: false, 64495: false, 64496: true, 131071: true, 131072: false, 4199999999: false, 4200000000: true, 1<<32 - 1: true, 1 << 32: true, -1: true} {
		if Reserved(n) != want {
			t.Error("Reserved", n)
		}
	}
}

func TestTexts(t *testing.T) {
	for s, want := range map[string][]api.Segment{"": nil, "65001 65002 {7,9}": path(seq(65001, 65002), set(7, 9)), "{1} {1}": path(set(1), set(1)), "{1,4294967295} 5 5": path(set(1, 4294967295), seq(5, 5))} {
		p, e := Parse(s)
		if e != api.OK || !reflect.DeepEqual(p, want) || Print(p) != s {
			t.Error("Parse", s, p, e)
		}
	}
	for _, s := range []string{" ", "1 ", " 1", "1  2", "01", "0", "4294967296", "-1", "+1", "{}", "{1", "1}", "{2,1}", "{1,1}", "{1, 2}", "{1,}", "{01}", "1,2", "{{1}}", "a", strings.Repeat("1 ", 64) + "1"} {
		if p, e := Parse(s); e != api.ErrSyntax || len(p) > 0 {
			t.Error("Parse", s, p, e)
		}
	}
	if _, e := Parse(strings.Repeat("1 ", 63) + "1"); e != api.OK {
		t.Error("Parse of 64 numbers", e)
	}
	if _, e := Parse(strings.Repeat("1", 65537)); e != api.ErrLimit {
		t.Error("Parse of a long text", e)
	}
	if _, e := Parse(strings.Repeat("1", 65536)); e != api.ErrSyntax {
		t.Error("Parse of a text at the limit", e)
	}
}
