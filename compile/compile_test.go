package compile

import (
	"reflect"
	"slices"
	"testing"

	"exchangepoint/addr"
	"exchangepoint/api"
	"exchangepoint/member"
)

const text = `lan 192.0.2.0/24 2001:db8::/64
server 64496 rs - 0 0
port 9 1 10 02:00:00:00:00:09 192.0.2.9 2001:db8::2
member 64500 a - 10 20
port 5 7 1 02:00:00:00:00:05,02:00:00:00:00:15 - 2001:db8::1
port 3 2 1 02:00:00:00:00:03 192.0.2.3 -
`

func at(s string) api.Addr {
	a, _ := addr.Parse(s)
	return a
}

func base() api.Database {
	d, e := member.Parse(text)
	if e != api.OK {
		panic(e)
	}
	return d
}

func TestRules(t *testing.T) {
	l, e := Rules(base(), 4, 16)
	want := []api.Rule{
		{Port: 3, ASN: 64500, Switch: 2, MACs: []api.MAC{{2, 0, 0, 0, 0, 3}}, V4: []api.Addr{at("192.0.2.3")}, Rate: 4, Burst: 16},
		{Port: 5, ASN: 64500, Switch: 7, MACs: []api.MAC{{2, 0, 0, 0, 0, 5}, {2, 0, 0, 0, 0, 0x15}}, V6: []api.Addr{at("2001:db8::1")}, Rate: 4, Burst: 16},
		{Port: 9, ASN: 64496, Switch: 1, MACs: []api.MAC{{2, 0, 0, 0, 0, 9}}, V4: []api.Addr{at("192.0.2.9")}, V6: []api.Addr{at("2001:db8::2")}, Rate: 4, Burst: 16},
	}
	if e != api.OK || !reflect.DeepEqual(l, want) {
		t.Error("Rules", l, e)
	}
	bad := base()
	bad.Members[0].Ports[0].ID = 9
	for _, x := range []struct {
		d           api.Database
		rate, burst int
		want        api.Errno
	}{{base(), 0, 0, api.OK}, {base(), 1 << 20, 1 << 20, api.OK}, {base(), 1, 0, api.ErrRange}, {base(), -1, 0, api.ErrRange}, {base(), 0, -1, api.ErrRange}, {base(), 0, 1<<20 + 1, api.ErrRange}, {bad, 1, 0, api.ErrExists}} {
		if l, e := Rules(x.d, x.rate, x.burst); e != x.want || e != api.OK && len(l) > 0 {
			t.Error("Rules", x.rate, x.burst, e)
		}
	}
}

func TestBindings(t *testing.T) {
	want := []api.Binding{{Addr: at("192.0.2.3"), MAC: api.MAC{2, 0, 0, 0, 0, 3}, Port: 3}, {Addr: at("192.0.2.9"), MAC: api.MAC{2, 0, 0, 0, 0, 9}, Port: 9}, {Addr: at("2001:db8::1"), MAC: api.MAC{2, 0, 0, 0, 0, 5}, Port: 5}, {Addr: at("2001:db8::2"), MAC: api.MAC{2, 0, 0, 0, 0, 9}, Port: 9}}
	l := Bindings(base())
	if !slices.Equal(l, want) {
		t.Error("Bindings", l)
	}
	if b, ok := Bound(l, at("2001:db8::1")); !ok || b != want[2] {
		t.Error("Bound", b, ok)
	}
	if b, ok := Bound(l, at("192.0.2.1")); ok || b != (api.Binding{}) {
		t.Error("Bound of none", b, ok)
	}
}

func TestLookups(t *testing.T) {
	l, _ := Rules(base(), 1, 1)
	if r, ok := Rule(l, 5); !ok || !reflect.DeepEqual(r, l[1]) {
		t.Error("Rule", r, ok)
	}
	if r, ok := Rule(l, 1); ok || !reflect.DeepEqual(r, api.Rule{}) {
		t.Error("Rule of none", r, ok)
	}
	if p, ok := Where(l, api.MAC{2, 0, 0, 0, 0, 0x15}); !ok || p != 5 {
		t.Error("Where", p, ok)
	}
	if p, ok := Where(l, api.MAC{2}); ok || p != 0 {
		t.Error("Where of none", p, ok)
	}
	twice := []api.Rule{{Port: 1, ASN: 1, MACs: []api.MAC{{2}}}, {Port: 1, ASN: 2}, {Port: 3, MACs: []api.MAC{{2}}}}
	if r, _ := Rule(twice, 1); r.ASN != 1 {
		t.Error("Rule returns the first one")
	}
	if p, _ := Where(twice, api.MAC{2}); p != 1 {
		t.Error("Where returns the first one")
	}
}

func TestDiff(t *testing.T) {
	l, _ := Rules(base(), 1, 1)
	for name, change := range map[string]func(r *api.Rule){"ASN": func(r *api.Rule) { r.ASN++ }, "switch": func(r *api.Rule) { r.Switch++ }, "MACs": func(r *api.Rule) { r.MACs = r.MACs[1:] }, "V4": func(r *api.Rule) { r.V4 = []api.Addr{{}} }, "V6": func(r *api.Rule) { r.V6 = nil }, "rate": func(r *api.Rule) { r.Rate++ }, "burst": func(r *api.Rule) { r.Burst++ }} {
		m := slices.Clone(l)
		change(&m[1])
		if a, g, c := Diff(l, m); len(a) > 0 || len(g) > 0 || !slices.Equal(c, []int{5}) {
			t.Error("Diff", name, a, g, c)
		}
	}
	m := slices.Clone(l)
	m[0].V6 = []api.Addr{}
	if a, g, c := Diff(l, m); len(a)+len(g)+len(c) > 0 {
		t.Error("Diff of nil and empty", a, g, c)
	}
	if a, g, c := Diff(l[:2], l[1:]); !slices.Equal(a, []int{9}) || !slices.Equal(g, []int{3}) || len(c) > 0 {
		t.Error("Diff", a, g, c)
	}
	if a, g, _ := Diff(nil, l); !slices.Equal(a, []int{3, 5, 9}) || len(g) > 0 {
		t.Error("Diff from nothing", a, g)
	}
	if a, g, _ := Diff(l, nil); len(a) > 0 || !slices.Equal(g, []int{3, 5, 9}) {
		t.Error("Diff to nothing", a, g)
	}
}
