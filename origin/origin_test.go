package origin

import (
	"reflect"
	"slices"
	"testing"

	"exchangepoint/api"
	"exchangepoint/prefix"
	"exchangepoint/resource"
)

func pre(s string) api.Prefix {
	p, e := prefix.Parse(s)
	if e != api.OK {
		panic(s)
	}
	return p
}

func has(l ...string) api.Resources {
	var out []api.Prefix
	for _, s := range l {
		out = append(out, pre(s))
	}
	r, _ := resource.Of(out, nil)
	return r
}

func cert(key, issuer int, l ...string) api.Cert {
	return api.Cert{Key: key, Issuer: issuer, From: 10, Until: 20, Resources: has(l...)}
}

func signed(key, asn, most int, l ...string) api.Signed {
	s := api.Signed{Key: key, ASN: asn, From: 10, Until: 20}
	for _, p := range l {
		s.Objects = append(s.Objects, api.Object{Prefix: pre(p), Max: most, ASN: asn})
	}
	return s
}

func TestTrusted(t *testing.T) {
	broken := cert(6, 1)
	broken.Resources.ASNs = []api.Span{{From: 5, To: 4}}
	late := cert(7, 1)
	late.From = 16
	certs := []api.Cert{
		cert(3, 2, "10.1.1.0/24"), cert(2, 1, "10.1.0.0/16"), cert(1, 1, "10.0.0.0/8"), cert(4, 1, "11.0.0.0/16"), cert(5, 4), cert(9, 9, "10.0.0.0/8"), broken, late, cert(8, 7), cert(10, 11), cert(11, 10), cert(1, 99, "0.0.0.0/0"), cert(12, 1, "11.0.0.0/8"),
	}
	want := []bool{true, true, true, false, false, false, false, false, false, false, false, false, false}
	if got := Trusted(certs, []int{1}, 15); !slices.Equal(got, want) {
		t.Error("Trusted", got)
	}
	if got := Trusted(certs, nil, 15); slices.Contains(got, true) {
		t.Error("Trusted without anchors", got)
	}
	for now, want := range map[int]bool{9: false, 10: true, 20: true, 21: false} {
		if got := Trusted(certs, []int{1}, now); got[2] != want || got[0] != want {
			t.Error("Trusted at", now, got)
		}
	}
	if got := Trusted(certs, []int{1}, 16); !got[7] || !got[8] {
		t.Error("Trusted at 16", got)
	}
}

func TestDepth(t *testing.T) {
	var certs []api.Cert
	for i := range 18 {
		certs = append(certs, cert(i, max(i-1, 0), "10.0.0.0/8"))
	}
	slices.Reverse(certs)
	got := Trusted(certs, []int{0}, 15)
	slices.Reverse(got)
	for i, ok := range got {
		if ok != (i < 16) {
			t.Error("a chain of", i+1, ok)
		}
	}
	short := append(certs, cert(5, 0, "10.0.0.0/8"))
	if got := Trusted(short, []int{0}, 15); slices.Contains(got, false) {
		t.Error("the shortest chain counts", got)
	}
}

func TestExplain(t *testing.T) {
	certs := []api.Cert{cert(1, 1, "10.0.0.0/8"), cert(2, 1, "10.1.0.0/16"), cert(2, 1, "10.2.0.0/16"), cert(3, 3, "10.0.0.0/8")}
	anchors := []int{1}
	late := signed(2, 7, 24, "10.1.2.0/24")
	late.Until = 14
	other := signed(9, 7, 24, "10.1.2.0/24")
	other.Objects[0].ASN = 8
	for name, x := range map[string]struct {
		s    api.Signed
		want api.Errno
	}{
		"good": {signed(2, 7, 24, "10.1.2.0/24"), api.OK}, "another certificate": {signed(2, 7, 24, "10.2.2.0/24"), api.OK}, "AS 0": {signed(2, 0, 32, "10.1.2.0/24"), api.OK}, "nothing": {signed(2, 7, 0), api.OK},
		"both certificates": {signed(2, 7, 24, "10.1.2.0/24", "10.2.2.0/24"), api.ErrCover}, "not trusted": {signed(3, 7, 24, "10.1.2.0/24"), api.ErrDown}, "no certificate": {signed(4, 7, 24, "10.1.2.0/24"), api.ErrName}, "late": {late, api.ErrExpired},
		"ASN -1": {signed(4, -1, 24, "10.1.2.0/24"), api.ErrArg}, "ASN": {signed(4, 1<<32, 24, "10.1.2.0/24"), api.ErrArg}, "Max": {signed(4, 7, 33, "10.1.2.0/24"), api.ErrArg}, "Max below Len": {signed(4, 7, 23, "10.1.2.0/24"), api.ErrArg}, "another ASN": {other, api.ErrArg},
		"prefix": {api.Signed{Key: 4, Objects: []api.Object{{Prefix: api.Prefix{Len: -1}, Max: 5}}}, api.ErrArg}, "many": {api.Signed{Key: 2, From: 10, Until: 20, Objects: make([]api.Object, 513)}, api.ErrArg},
	} {
		if e := Explain(certs, anchors, x.s, 15); e != x.want {
			t.Error("Explain", name, e)
		}
		if l, e := Payloads(certs, []api.Signed{x.s}, anchors, 15); e != api.OK || len(l) > 0 && x.want != api.OK || x.want == api.OK && len(l) != len(x.s.Objects) {
			t.Error("Payloads", name, l, e)
		}
	}
}

func TestPayloads(t *testing.T) {
	certs := []api.Cert{cert(1, 1, "10.0.0.0/8")}
	l, e := Payloads(certs, []api.Signed{signed(1, 9, 24, "10.1.2.0/24", "10.1.0.0/16"), signed(1, 7, 24, "10.1.2.0/24"), signed(1, 7, 25, "10.1.2.0/24"), signed(1, 7, 24, "10.1.2.0/24"), signed(2, 7, 24, "10.1.1.0/24")}, []int{1}, 15)
	want := []api.Object{{Prefix: pre("10.1.0.0/16"), Max: 24, ASN: 9}, {Prefix: pre("10.1.2.0/24"), Max: 24, ASN: 7}, {Prefix: pre("10.1.2.0/24"), Max: 24, ASN: 9}, {Prefix: pre("10.1.2.0/24"), Max: 25, ASN: 7}}
	if e != api.OK || !reflect.DeepEqual(l, want) {
		t.Error("Payloads", l, e)
	}
	big := signed(1, 7, 32)
	for i := range 512 {
		big.Objects = append(big.Objects, api.Object{Prefix: api.Prefix{Addr: api.Addr{Lo: 10<<24 + uint64(i)}, Len: 32}, Max: 32, ASN: 7})
	}
	if l, e := Payloads(certs, slices.Repeat([]api.Signed{big}, 2), []int{1}, 15); e != api.OK || len(l) != 512 {
		t.Error("Payloads at the limit", len(l), e)
	}
	if l, e := Payloads(certs, []api.Signed{big, signed(1, 8, 24, "10.1.2.0/24")}, []int{1}, 15); e != api.ErrLimit || len(l) > 0 {
		t.Error("Payloads beyond the limit", e)
	}
	if _, e := Payloads(make([]api.Cert, 513), nil, nil, 15); e != api.ErrLimit {
		t.Error("many certificates", e)
	}
	if _, e := Payloads(nil, make([]api.Signed, 513), nil, 15); e != api.ErrLimit {
		t.Error("many signed origins", e)
	}
}

func TestState(t *testing.T) {
	l := []api.Object{{Prefix: pre("10.1.2.0/24"), Max: 24, ASN: 7}, {Prefix: pre("10.3.0.0/16"), Max: 32, ASN: 0}, {Prefix: pre("10.0.0.0/8"), Max: 9, ASN: 5}, {Prefix: pre("10.3.0.0/16"), Max: 24, ASN: 6}}
	for _, x := range []struct {
		p    string
		asn  int
		want int
		of   []api.Object
	}{
		{"10.1.2.0/24", 7, api.OriginValid, []api.Object{l[0], l[2]}}, {"10.1.2.0/24", 8, api.OriginInvalid, []api.Object{l[0], l[2]}}, {"10.1.2.0/25", 7, api.OriginInvalid, []api.Object{l[0], l[2]}}, {"11.0.0.0/8", 7, api.OriginUnknown, nil}, {"0.0.0.0/0", 7, api.OriginUnknown, nil},
		{"10.3.0.0/16", 0, api.OriginInvalid, []api.Object{l[1], l[2], l[3]}}, {"10.3.0.0/16", 6, api.OriginValid, []api.Object{l[1], l[2], l[3]}}, {"10.0.0.0/9", 5, api.OriginValid, l[2:3]}, {"10.0.0.0/9", -1, api.OriginInvalid, l[2:3]},
	} {
		if s, of := State(l, pre(x.p), x.asn); s != x.want || !reflect.DeepEqual(of, x.of) {
			t.Error("State", x.p, x.asn, s, of)
		}
	}
}
