package irr

import (
	"math/rand"
	"reflect"
	"slices"
	"strconv"
	"strings"
	"testing"

	"exchangepoint/api"
	"exchangepoint/prefix"
)

func pre(s string) api.Prefix {
	p, e := prefix.Parse(s)
	if e != api.OK {
		panic(s)
	}
	return p
}

func object(s string, most, asn int) api.Object {
	return api.Object{Prefix: pre(s), Max: most, ASN: asn}
}

func TestValid(t *testing.T) {
	var full api.Registry
	for i := range api.MaxSets {
		full.Sets = append(full.Sets, api.Set{Name: "s" + strconv.Itoa(i), ASNs: slices.Repeat([]int{1}, 64), Sets: slices.Repeat([]string{"x"}, 64)})
	}
	full.Objects = slices.Repeat([]api.Object{object("10.0.0.0/8", 32, api.MaxASN)}, 512)
	if !Valid(full) || !Valid(api.Registry{}) {
		t.Error("valid registries")
	}
	for name, change := range map[string]func(r *api.Registry){
		"sets": func(r *api.Registry) { r.Sets = append(r.Sets, api.Set{Name: "one-more"}) }, "objects": func(r *api.Registry) { r.Objects = append(r.Objects, r.Objects[0]) },
		"name": func(r *api.Registry) { r.Sets[0].Name = "" }, "name twice": func(r *api.Registry) { r.Sets[0].Name = "s1" }, "numbers": func(r *api.Registry) { r.Sets[0].ASNs = make([]int, 65) }, "number 0": func(r *api.Registry) { r.Sets[0].ASNs = []int{0} }, "number": func(r *api.Registry) { r.Sets[0].ASNs = []int{1 << 32} },
		"names": func(r *api.Registry) { r.Sets[0].Sets = slices.Repeat([]string{"x"}, 65) }, "set's name": func(r *api.Registry) { r.Sets[0].Sets = []string{"a b"} }, "long name": func(r *api.Registry) { r.Sets[0].Sets = []string{strings.Repeat("x", 33)} },
		"prefix": func(r *api.Registry) { r.Objects = []api.Object{{Prefix: api.Prefix{Len: 33}, Max: 33, ASN: 1}} }, "Max": func(r *api.Registry) { r.Objects = []api.Object{object("10.0.0.0/8", 33, 1)} }, "Max below Len": func(r *api.Registry) { r.Objects = []api.Object{object("10.0.0.0/8", 7, 1)} }, "ASN 0": func(r *api.Registry) { r.Objects = []api.Object{object("10.0.0.0/8", 8, 0)} },
	} {
		r := api.Registry{Sets: slices.Clone(full.Sets), Objects: full.Objects}
		change(&r)
		if Valid(r) {
			t.Error("Valid", name)
		}
		if n, m, e := Expand(r, "s5"); e != api.ErrArg || len(n)+len(m) > 0 {
			t.Error("Expand", name, e)
		}
		if e := Permitted(r, 1, "no-set", pre("10.0.0.0/8"), 1); e != api.ErrArg {
			t.Error("Permitted", name, e)
		}
	}
}

func sets() api.Registry {
	return api.Registry{Sets: []api.Set{{Name: "A", ASNs: []int{5, 1}, Sets: []string{"B", "Z"}}, {Name: "B", ASNs: []int{2, 1}, Sets: []string{"A", "C", "B"}}, {Name: "D", ASNs: []int{9}}}}
}

func TestExpand(t *testing.T) {
	if n, m, e := Expand(sets(), "A"); e != api.OK || !slices.Equal(n, []int{1, 2, 5}) || !slices.Equal(m, []string{"C", "Z"}) {
		t.Error("Expand", n, m, e)
	}
	if n, m, e := Expand(sets(), "D"); e != api.OK || !slices.Equal(n, []int{9}) || len(m) != 0 {
		t.Error("Expand", n, m, e)
	}
	if n, m, e := Expand(sets(), "C"); e != api.ErrName || len(n)+len(m) > 0 {
		t.Error("Expand of no set", n, m, e)
	}
}

func TestOwnAndNormal(t *testing.T) {
	l := []api.Object{object("10.1.0.0/16", 24, 2), object("10.0.0.0/8", 24, 1), object("10.0.0.0/8", 16, 1), object("10.0.0.0/8", 24, 1), object("::/0", 0, 3), object("10.1.0.0/16", 20, 1), object("10.1.0.0/16", 25, 1)}
	if got := Own(api.Registry{Objects: l}, []int{1, 3, 1}); !reflect.DeepEqual(got, []api.Object{l[2], l[1], l[5], l[6], l[4]}) {
		t.Error("Own", got)
	}
	if got := Own(api.Registry{Objects: l}, nil); len(got) != 0 {
		t.Error("Own of nobody", got)
	}
	if got := Normal(l); !reflect.DeepEqual(got, []api.Object{l[1], l[0], l[6], l[4]}) {
		t.Error("Normal", got)
	}
}

func TestPermits(t *testing.T) {
	l := []api.Object{object("10.0.0.0/8", 16, 1), object("10.1.0.0/16", 20, 1), object("10.1.0.0/16", 30, 2)}
	for _, x := range []struct {
		p    string
		asn  int
		want api.Errno
	}{{"10.0.0.0/8", 1, api.OK}, {"10.2.0.0/16", 1, api.OK}, {"10.2.0.0/17", 1, api.ErrRange}, {"10.1.0.0/20", 1, api.OK}, {"10.1.0.0/21", 1, api.ErrRange}, {"10.1.0.0/21", 2, api.OK}, {"11.0.0.0/8", 1, api.ErrNone}, {"0.0.0.0/0", 1, api.ErrNone}, {"10.0.0.0/8", 3, api.ErrName}} {
		if e := Permits(l, pre(x.p), x.asn); e != x.want {
			t.Error("Permits", x.p, x.asn, e)
		}
	}
	if e := Permits(l, api.Prefix{Len: 40}, 9); e != api.ErrArg {
		t.Error("Permits of an invalid prefix", e)
	}
}

func TestPermitted(t *testing.T) {
	r := sets()
	r.Objects = []api.Object{object("10.0.0.0/8", 16, 2), object("11.0.0.0/8", 16, 7)}
	for _, x := range []struct {
		asn    int
		set    string
		p      string
		origin int
		want   api.Errno
	}{
		{7, "A", "10.0.0.0/8", 2, api.OK}, {7, "A", "11.0.0.0/8", 7, api.OK}, {7, "", "11.0.0.0/8", 7, api.OK}, {7, "", "10.0.0.0/8", 2, api.ErrCover}, {7, "D", "10.0.0.0/8", 2, api.ErrCover}, {7, "Z", "10.0.0.0/8", 7, api.ErrName},
		{7, "A", "11.0.0.0/8", 2, api.ErrNone}, {7, "A", "10.0.0.0/17", 2, api.ErrRange}, {7, "A", "10.0.0.0/8", 5, api.ErrName}, {7, "A", "10.0.0.0/8", -1, api.ErrCover},
	} {
		if e := Permitted(r, x.asn, x.set, pre(x.p), x.origin); e != x.want {
			t.Error("Permitted", x, e)
		}
	}
	if e := Permitted(r, 7, "", api.Prefix{Len: -1}, 8); e != api.ErrCover {
		t.Error("Permitted: the origin is looked at ahead of the prefix", e)
	}
	if e := Permitted(r, 7, "", api.Prefix{Len: -1}, 7); e != api.ErrArg {
		t.Error("Permitted of an invalid prefix", e)
	}
}

// Normal permits what the list permits, and no element can be left out.
func TestNormalKeeps(t *testing.T) {
	r := rand.New(rand.NewSource(1))
	random := func() api.Prefix {
		p, _ := prefix.Make(api.Addr{Lo: uint64(r.Intn(8)) << 29}, r.Intn(4))
		return p
	}
	for range 300 {
		var l []api.Object
		for range r.Intn(8) {
			p := random()
			l = append(l, api.Object{Prefix: p, Max: p.Len + r.Intn(5-p.Len), ASN: 1 + r.Intn(2)})
		}
		m := Normal(l)
		for range 50 {
			p, asn := random(), 1+r.Intn(2)
			if (Permits(l, p, asn) == api.OK) != (Permits(m, p, asn) == api.OK) {
				t.Fatal("Normal", l, m, p)
			}
		}
	}
}
