package resource

import (
	"math/rand"
	"reflect"
	"slices"
	"testing"

	"exchangepoint/addr"
	"exchangepoint/api"
	"exchangepoint/prefix"
)

func at(s string) api.Addr {
	a, e := addr.Parse(s)
	if e != api.OK {
		panic(s)
	}
	return a
}

func pre(s string) api.Prefix {
	p, e := prefix.Parse(s)
	if e != api.OK {
		panic(s)
	}
	return p
}

func ranges(l ...string) api.Resources {
	var r api.Resources
	for i := 0; i < len(l); i += 2 {
		r.Addrs = append(r.Addrs, api.Range{From: at(l[i]), To: at(l[i+1])})
	}
	return r
}

func spans(l ...int) api.Resources {
	var r api.Resources
	for i := 0; i < len(l); i += 2 {
		r.ASNs = append(r.ASNs, api.Span{From: l[i], To: l[i+1]})
	}
	return r
}

func full() api.Resources {
	var r api.Resources
	for i := range api.MaxRanges {
		r.Addrs = append(r.Addrs, api.Range{From: api.Addr{Lo: uint64(2 * i)}, To: api.Addr{Lo: uint64(2 * i)}})
		r.ASNs = append(r.ASNs, api.Span{From: 2 * i, To: 2 * i})
	}
	return r
}

const all6 = "ffff:ffff:ffff:ffff:ffff:ffff:ffff:ffff"

func TestValid(t *testing.T) {
	for _, r := range []api.Resources{{}, full(), spans(0, api.MaxASN), ranges("0.0.0.0", "255.255.255.255", "::", all6), ranges("10.0.0.0", "10.0.0.1", "10.0.0.3", "10.0.0.3")} {
		if !Valid(r) {
			t.Error("Valid", r)
		}
	}
	many := full()
	many.Addrs = append(many.Addrs, api.Range{From: at("::"), To: at("::")})
	many2 := full()
	many2.ASNs = append(many2.ASNs, api.Span{From: 9999, To: 9999})
	for _, r := range []api.Resources{many, many2, spans(-1, 5), spans(5, 4), spans(5, 1<<32), spans(1, 2, 3, 4), spans(1, 2, 2, 4), spans(5, 6, 1, 2), ranges("10.0.0.1", "10.0.0.0"), ranges("10.0.0.1", "::"), ranges("10.0.0.0", "10.0.0.1", "10.0.0.2", "10.0.0.3"), ranges("10.0.0.0", "10.0.0.1", "10.0.0.1", "10.0.0.3"), ranges("::", "::", "10.0.0.1", "10.0.0.3"), ranges("::", "::ffff:ffff:ffff:ffff", "0:0:0:1::", "0:0:0:1::"), {Addrs: []api.Range{{From: api.Addr{Hi: 1}, To: api.Addr{Hi: 1}}}}, {Addrs: []api.Range{{To: api.Addr{Hi: 1}}}}} {
		if Valid(r) {
			t.Error("Valid", r)
		}
		for _, f := range []func(a, b api.Resources) (api.Resources, api.Errno){Union, Intersect, Minus} {
			if x, e := f(r, api.Resources{}); e != api.ErrArg || !reflect.DeepEqual(x, api.Resources{}) {
				t.Error("an invalid first argument", r, e)
			}
			if _, e := f(api.Resources{}, r); e != api.ErrArg {
				t.Error("an invalid second argument", r, e)
			}
		}
	}
}

func TestOf(t *testing.T) {
	r, e := Of([]api.Prefix{pre("::/1"), pre("10.0.0.128/25"), pre("10.0.0.0/25"), pre("10.0.0.0/30"), pre("8000::/1"), pre("255.0.0.0/8")}, []api.Span{{From: 5, To: 9}, {From: 3, To: 4}, {From: 6, To: 7}, {From: 11, To: api.MaxASN}})
	want := ranges("10.0.0.0", "10.0.0.255", "255.0.0.0", "255.255.255.255", "::", all6)
	want.ASNs = spans(3, 9, 11, api.MaxASN).ASNs
	if e != api.OK || !reflect.DeepEqual(r, want) {
		t.Error("Of", r, e)
	}
	var l []api.Prefix
	var m []api.Span
	for i := range 257 {
		l = append(l, api.Prefix{Addr: api.Addr{Lo: uint64(2 * i)}, Len: 32})
		m = append(m, api.Span{From: 2 * i, To: 2 * i})
	}
	for i, x := range []struct {
		l    []api.Prefix
		m    []api.Span
		want api.Errno
	}{{l[1:], m[1:], 0}, {l, nil, api.ErrLimit}, {nil, m, api.ErrLimit}, {l, []api.Span{{From: -1}}, api.ErrArg}, {nil, []api.Span{{From: 2, To: 1}}, api.ErrArg}, {nil, []api.Span{{To: 1 << 32}}, api.ErrArg}, {[]api.Prefix{{Len: 33}}, nil, api.ErrArg}, {slices.Repeat(l[:1], 300), nil, 0}} {
		if r, e := Of(x.l, x.m); e != x.want || e != api.OK && !reflect.DeepEqual(r, api.Resources{}) {
			t.Error("Of", i, e)
		}
	}
}

func TestLimits(t *testing.T) {
	odd := api.Resources{ASNs: []api.Span{{From: 9999, To: 9999}}}
	if r, e := Union(full(), odd); e != api.ErrLimit || !reflect.DeepEqual(r, api.Resources{}) {
		t.Error("Union", e)
	}
	if _, e := Minus(spans(0, 9999), full()); e != api.OK {
		t.Error("Minus", e)
	}
	whole := ranges("0.0.0.0", "255.255.255.255")
	if r, e := Minus(whole, full()); e != api.OK || len(r.Addrs) != 256 {
		t.Error("Minus", e)
	}
	shifted := full()
	for i := range shifted.Addrs {
		shifted.Addrs[i].From.Lo++
		shifted.Addrs[i].To.Lo++
	}
	if _, e := Minus(whole, shifted); e != api.ErrLimit {
		t.Error("Minus beyond the limit", e)
	}
	var a, b api.Resources
	for i := range 130 {
		a.ASNs = append(a.ASNs, api.Span{From: 10 * i, To: 10*i + 8})
		b.ASNs = append(b.ASNs, api.Span{From: 10*i - 2 + 2*(1-min(i, 1)), To: 10*i + 2})
	}
	if r, e := Intersect(a, b); e != api.ErrLimit || len(r.ASNs) > 0 {
		t.Error("Intersect", len(r.ASNs), e)
	}
}

func TestQuestions(t *testing.T) {
	r := ranges("10.0.0.0", "10.0.0.255", "10.0.2.0", "10.0.3.255", "::", "::ff")
	r.ASNs = spans(5, 9, 11, 11).ASNs
	for s, want := range map[string]bool{"10.0.0.0/24": true, "10.0.0.0/23": false, "10.0.0.255/32": true, "10.0.1.0/32": false, "10.0.2.0/23": true, "10.0.0.0/22": false, "::/120": true, "::/119": false, "0.0.0.0/25": false, "255.0.0.0/8": false, "9.255.255.255/32": false} {
		if HasPrefix(r, pre(s)) != want {
			t.Error("HasPrefix", s)
		}
	}
	for n, want := range map[int]bool{4: false, 5: true, 9: true, 10: false, 11: true, 12: false, -1: false} {
		if HasASN(r, n) != want {
			t.Error("HasASN", n)
		}
	}
	if !Covers(r, r) || !Covers(r, api.Resources{}) || Covers(api.Resources{}, r) || Covers(r, ranges("10.0.0.255", "10.0.2.0")) || !Covers(r, ranges("10.0.0.1", "10.0.0.2", "10.0.0.4", "10.0.0.5", "::1", "::1")) || Covers(r, spans(9, 10)) || !Covers(r, spans(6, 7, 11, 11)) {
		t.Error("Covers")
	}
}

func TestPrefixes(t *testing.T) {
	for _, x := range []struct {
		r    api.Resources
		want []string
	}{
		{ranges("10.0.0.0", "10.0.0.2"), []string{"10.0.0.0/31", "10.0.0.2/32"}}, {ranges("10.0.0.1", "10.0.0.6"), []string{"10.0.0.1/32", "10.0.0.2/31", "10.0.0.4/31", "10.0.0.6/32"}},
		{ranges("0.0.0.0", "255.255.255.255", "::", all6), []string{"0.0.0.0/0", "::/0"}}, {api.Resources{}, nil}, {ranges("255.255.255.255", "255.255.255.255", "::1", "::2"), []string{"255.255.255.255/32", "::1/128", "::2/128"}},
	} {
		var got []string
		for _, p := range Prefixes(x.r) {
			got = append(got, prefix.Print(p))
		}
		if !slices.Equal(got, x.want) {
			t.Error("Prefixes", x.r, got)
		}
	}
}

// set returns the members of resources of small numbers and addresses.
func set(r api.Resources) [40]bool {
	var out [40]bool
	for i := range 20 {
		out[i] = HasASN(r, i)
		out[20+i] = HasPrefix(r, api.Prefix{Addr: api.Addr{Lo: uint64(i)}, Len: 32})
	}
	return out
}

func random(r *rand.Rand) api.Resources {
	var l []api.Prefix
	var m []api.Span
	for range r.Intn(4) {
		p, _ := prefix.Make(api.Addr{Lo: uint64(r.Intn(16))}, 30+r.Intn(3))
		l = append(l, p)
		n := r.Intn(15)
		m = append(m, api.Span{From: n, To: n + r.Intn(5)})
	}
	out, _ := Of(l, m)
	return out
}

func TestLaws(t *testing.T) {
	r := rand.New(rand.NewSource(1))
	for range 2000 {
		a, b := random(r), random(r)
		u, _ := Union(a, b)
		i, _ := Intersect(a, b)
		m, _ := Minus(a, b)
		if !Valid(u) || !Valid(i) || !Valid(m) {
			t.Fatal("not valid", a, b, u, i, m)
		}
		x, y, all := set(a), set(b), true
		for k := range x {
			if set(u)[k] != (x[k] || y[k]) || set(i)[k] != (x[k] && y[k]) || set(m)[k] != (x[k] && !y[k]) {
				t.Fatal("sets", a, b, u, i, m)
			}
			all = all && (x[k] || !y[k])
		}
		if Covers(a, b) != all {
			t.Fatal("Covers", a, b)
		}
		if back, e := Of(Prefixes(a), a.ASNs); e != api.OK || !reflect.DeepEqual(back, a) {
			t.Fatal("Of of Prefixes", a, back)
		}
	}
}
