package table

import (
	"math/rand"
	"slices"
	"testing"

	"exchangepoint/addr"
	"exchangepoint/api"
	"exchangepoint/prefix"
)

func pre(s string) api.Prefix {
	p, e := prefix.Parse(s)
	if e != api.OK {
		panic(s)
	}
	return p
}

func entry(s string, v int) api.Entry { return api.Entry{Prefix: pre(s), Value: v} }

func at(s string) api.Addr {
	a, _ := addr.Parse(s)
	return a
}

func full() []api.Entry {
	var t []api.Entry
	for i := range api.MaxTable {
		t = append(t, api.Entry{Prefix: api.Prefix{Addr: api.Addr{Lo: uint64(i)}, Len: 32}, Value: i})
	}
	return t
}

func TestValid(t *testing.T) {
	if !Valid(nil) || !Valid(full()) || !Valid([]api.Entry{entry("10.0.0.0/8", 1), entry("10.0.0.0/9", 1), entry("::/0", -5)}) {
		t.Error("valid tables")
	}
	for _, l := range [][]api.Entry{{{Prefix: api.Prefix{Len: -1}}}, {entry("10.0.0.0/8", 1), entry("10.0.0.0/8", 1)}, {entry("10.0.0.0/9", 1), entry("10.0.0.0/8", 1)}, {entry("::/0", 1), entry("10.0.0.0/8", 1)}, append(full(), entry("::/0", 0))} {
		if Valid(l) {
			t.Error("Valid", l)
		}
	}
}

func TestPutGetRemove(t *testing.T) {
	var l []api.Entry
	for i, s := range []string{"::/0", "10.0.0.0/8", "10.0.0.0/9", "0.0.0.0/0"} {
		m, e := Put(l, pre(s), i)
		if e != api.OK || !Valid(m) || len(m) != i+1 {
			t.Fatal("Put", s, m, e)
		}
		l = m
	}
	if v, ok := Get(l, pre("10.0.0.0/9")); !ok || v != 2 {
		t.Error("Get", v, ok)
	}
	if v, ok := Get(l, pre("10.0.0.0/10")); ok || v != 0 {
		t.Error("Get of none", v, ok)
	}
	m, e := Put(l, pre("10.0.0.0/8"), 77)
	if v, ok := Get(m, pre("10.0.0.0/8")); e != api.OK || len(m) != 4 || !ok || v != 77 {
		t.Error("Put replaces", m, e)
	}
	if v, _ := Get(l, pre("10.0.0.0/8")); v != 1 {
		t.Error("Put has changed its argument")
	}
	m, e = Remove(m, pre("10.0.0.0/8"))
	if _, ok := Get(m, pre("10.0.0.0/8")); e != api.OK || len(m) != 3 || ok {
		t.Error("Remove", m, e)
	}
	bad := []api.Entry{entry("::/0", 1), entry("10.0.0.0/8", 1)}
	if _, e := Put(bad, pre("::/0"), 1); e != api.ErrArg {
		t.Error("Put to an invalid table", e)
	}
	if _, e := Put(full(), api.Prefix{Len: 33}, 1); e != api.ErrArg {
		t.Error("Put of an invalid prefix", e)
	}
	if m, e := Put(full(), pre("::/0"), 1); e != api.ErrLimit || len(m) != 0 {
		t.Error("Put to a full table", e)
	}
	if m, e := Put(full(), pre("0.0.0.1/32"), 9); e != api.OK || m[1].Value != 9 {
		t.Error("Put replaces in a full table", e)
	}
	if _, e := Remove(bad, pre("::/0")); e != api.ErrArg {
		t.Error("Remove from an invalid table", e)
	}
	if _, e := Remove(nil, api.Prefix{Len: 33}); e != api.ErrArg {
		t.Error("Remove of an invalid prefix", e)
	}
	if m, e := Remove(l, pre("1.0.0.0/8")); e != api.ErrNone || len(m) != 0 {
		t.Error("Remove of none", e)
	}
}

func TestLookup(t *testing.T) {
	l := []api.Entry{entry("0.0.0.0/0", 1), entry("10.0.0.0/8", 2), entry("10.0.0.0/16", 3), entry("10.1.0.0/16", 4), entry("1::/16", 5)}
	for s, want := range map[string]int{"10.0.1.1": 3, "10.1.0.1": 4, "10.2.0.0": 2, "11.0.0.0": 1, "1::": 5} {
		if e, ok := Lookup(l, at(s)); !ok || e.Value != want {
			t.Error("Lookup", s, e, ok)
		}
	}
	if e, ok := Lookup(l, at("2::")); ok || e != (api.Entry{}) {
		t.Error("Lookup of none", e)
	}
	if !slices.Equal(Covering(l, pre("10.0.0.0/16")), l[:3]) || !slices.Equal(Covered(l, pre("10.0.0.0/8")), l[1:4]) || len(Covering(l, pre("::/0"))) != 0 {
		t.Error("Covering or Covered")
	}
}

func TestAggregate(t *testing.T) {
	for _, x := range [][2][]api.Entry{
		{{entry("10.0.0.0/25", 7), entry("10.0.0.128/25", 7)}, {entry("10.0.0.0/24", 7)}},
		{{entry("10.0.0.0/25", 7), entry("10.0.0.128/25", 8)}, {entry("10.0.0.0/25", 7), entry("10.0.0.128/25", 8)}},
		{{entry("10.0.0.0/8", 1), entry("10.1.0.0/16", 1)}, {entry("10.0.0.0/8", 1)}},
		{{entry("10.0.0.0/8", 1), entry("10.0.0.0/12", 2), entry("10.1.0.0/16", 1)}, {entry("10.0.0.0/8", 1), entry("10.0.0.0/12", 2), entry("10.1.0.0/16", 1)}},
		{{entry("10.0.0.0/24", 3), entry("10.0.0.0/25", 7), entry("10.0.0.128/25", 7), entry("10.0.1.0/24", 7)}, {entry("10.0.0.0/23", 7)}},
		{{entry("::/1", 1), entry("8000::/1", 1)}, {entry("::/0", 1)}},
	} {
		if got := Aggregate(x[0]); !slices.Equal(got, x[1]) {
			t.Error("Aggregate", x[0], got)
		}
	}
}

// Lookups find the same values before and after.
func TestAggregateKeeps(t *testing.T) {
	r := rand.New(rand.NewSource(1))
	for range 300 {
		var l []api.Entry
		for range r.Intn(30) {
			p, _ := prefix.Make(api.Addr{Lo: uint64(r.Intn(32)) << 27}, 1+r.Intn(5))
			l, _ = Put(l, p, r.Intn(3))
		}
		m := Aggregate(l)
		if !Valid(m) || len(m) > len(l) {
			t.Fatal("Aggregate is no table", l, m)
		}
		for i := range 32 {
			a := api.Addr{Lo: uint64(i) << 27}
			x, ok1 := Lookup(l, a)
			y, ok2 := Lookup(m, a)
			if ok1 != ok2 || x.Value != y.Value {
				t.Fatal("Aggregate has changed a value", l, m, a)
			}
		}
	}
}
