package update

import (
	"bytes"
	"encoding/hex"
	"math/rand"
	"reflect"
	"slices"
	"strings"
	"testing"

	"exchangepoint/addr"
	"exchangepoint/api"
	"exchangepoint/attribute"
	"exchangepoint/prefix"
)

func pre(l ...string) []api.Prefix {
	var out []api.Prefix
	for _, s := range l {
		p, e := prefix.Parse(s)
		if e != api.OK {
			panic(s)
		}
		out = append(out, p)
	}
	return out
}

func at(s string) api.Addr {
	a, _ := addr.Parse(s)
	return a
}

func raw(s string) []byte {
	b, err := hex.DecodeString(strings.ReplaceAll(s, " ", ""))
	if err != nil {
		panic(s)
	}
	return b
}

func attrs(next string) api.Attrs {
	a := attribute.Empty()
	a.Origin, a.Path, a.Next = 0, []api.Segment{{ASNs: []int{65001}}}, at(next)
	return a
}

func withdraw(l ...string) api.Update {
	return api.Update{Withdraw: pre(l...), Attrs: attribute.Empty()}
}

func TestFrame(t *testing.T) {
	b, e := Frame(api.Message{Type: 2, Body: []byte{7, 8}})
	if e != api.OK || !bytes.Equal(b, append(bytes.Repeat([]byte{255}, 16), 0, 21, 2, 7, 8)) {
		t.Error("Frame", b, e)
	}
	if m, n, e := Parse(append(b, 1)); e != api.OK || n != 21 || m.Type != 2 || !bytes.Equal(m.Body, []byte{7, 8}) {
		t.Error("Parse", m, n, e)
	}
	for _, x := range []struct {
		m    api.Message
		want api.Errno
	}{{api.Message{}, api.ErrArg}, {api.Message{Type: 6, Body: make([]byte, 5000)}, api.ErrArg}, {api.Message{Type: 5, Body: make([]byte, 4077)}, api.OK}, {api.Message{Type: 1, Body: make([]byte, 4078)}, api.ErrLimit}} {
		b, e := Frame(x.m)
		if e != x.want || e != api.OK && len(b) > 0 {
			t.Error("Frame", x.m.Type, e)
		}
		if e == api.OK {
			if _, n, e := Parse(b); e != api.OK || n != 4096 {
				t.Error("Parse of the longest", n, e)
			}
		}
	}
	for i, x := range []struct {
		change func(b []byte) []byte
		want   api.Errno
	}{
		{func(b []byte) []byte { return nil }, api.ErrShort}, {func(b []byte) []byte { return b[:18] }, api.ErrShort}, {func(b []byte) []byte { return b[:20] }, api.ErrShort}, {func(b []byte) []byte { b[3] = 0; return b[:5] }, api.ErrReset}, {func(b []byte) []byte { b[15] = 0; return b }, api.ErrReset},
		{func(b []byte) []byte { b[17] = 18; return b }, api.ErrReset}, {func(b []byte) []byte { b[16], b[17] = 16, 1; return b }, api.ErrReset}, {func(b []byte) []byte { b[16], b[17] = 16, 0; return b }, api.ErrShort}, {func(b []byte) []byte { b[18] = 0; return b }, api.ErrReset}, {func(b []byte) []byte { b[18] = 6; return b[:19] }, api.ErrReset},
	} {
		if m, n, e := Parse(x.change(bytes.Clone(b))); e != x.want || n != 0 || !reflect.DeepEqual(m, api.Message{}) {
			t.Error("Parse", i, m, n, e)
		}
	}
}

func many(n int, v6 bool) []api.Prefix {
	var out []api.Prefix
	for i := range n {
		a, width := api.Addr{Lo: uint64(i)}, 32
		if v6 {
			a, width = api.Addr{V6: true, Lo: uint64(i)}, 128
		}
		out = append(out, api.Prefix{Addr: a, Len: width})
	}
	return out
}

func TestValid(t *testing.T) {
	for name, x := range map[string]struct {
		u    api.Update
		want bool
	}{
		"empty": {withdraw(), true}, "zero": {api.Update{}, false}, "withdrawal": {withdraw("10.0.0.0/8", "::/0", "10.0.0.0/8"), true}, "invalid": {api.Update{Withdraw: []api.Prefix{{Len: -1}}, Attrs: attribute.Empty()}, false},
		"attributes of nothing": {api.Update{Attrs: attrs("192.0.2.1")}, false}, "announcement": {api.Update{Attrs: attrs("192.0.2.1"), Announce: pre("10.0.0.0/8")}, true}, "announcement with V6": {api.Update{Attrs: attrs("::1"), Announce: pre("::/0")}, true},
		"no next": {api.Update{Attrs: attrs("0.0.0.0"), Announce: pre("10.0.0.0/8")}, false}, "another family": {api.Update{Attrs: attrs("192.0.2.1"), Announce: pre("10.0.0.0/8", "::/0")}, false}, "no attributes": {api.Update{Attrs: attribute.Empty(), Announce: pre("10.0.0.0/8")}, false},
		"invalid announced": {api.Update{Attrs: attrs("192.0.2.1"), Announce: []api.Prefix{{Len: 33}}}, false}, "256": {api.Update{Withdraw: many(256, false), Attrs: attrs("192.0.2.1"), Announce: many(256, false)}, true}, "257": {api.Update{Withdraw: many(257, false), Attrs: attribute.Empty()}, false}, "257 announced": {api.Update{Attrs: attrs("192.0.2.1"), Announce: many(257, false)}, false},
		"attributes at the limit": {api.Update{Withdraw: many(120, true), Attrs: attribute.Empty()}, true}, "attributes too long": {api.Update{Withdraw: many(121, true), Attrs: attribute.Empty()}, false},
	} {
		b, e := Encode(x.u)
		if Valid(x.u) != x.want || (e == api.OK) != x.want || !x.want && (e != api.ErrArg || len(b) > 0) {
			t.Error("Valid or Encode", name, e)
		}
		if n := Size(x.u); x.want && n != 19+len(b) || !x.want && n != 0 {
			t.Error("Size", name, n)
		}
	}
	no := attrs("192.0.2.1")
	no.Origin = -1
	if Valid(api.Update{Attrs: no, Announce: pre("10.0.0.0/8")}) {
		t.Error("Valid without an origin")
	}
	big := api.Update{Withdraw: append(many(256, false), many(0, true)...), Attrs: attrs("192.0.2.1"), Announce: many(256, false)}
	for i := range 8 {
		big.Attrs.Other = append(big.Attrs.Other, api.Unknown{Flags: 224, Type: 100 + i, Data: make([]byte, 190)})
	}
	if Valid(big) {
		t.Error("Valid of a long body", Size(big))
	}
	big.Attrs.Other = big.Attrs.Other[:7]
	if !Valid(big) || Size(big) > 4096 {
		t.Error("Valid of a body that fits", Size(big))
	}
}

func TestEncode(t *testing.T) {
	med := attrs("2001:db8::1")
	med.MED = 5
	for want, u := range map[string]api.Update{
		"0002 08 0a 0000": withdraw("10.0.0.0/8"), "0000 0000": withdraw(), "0001 00 0000": withdraw("0.0.0.0/0"), "0005 09 0a80 080b 0008 80 0f 05 000201 08 fd": withdraw("fd00::/8", "10.128.0.0/9", "11.0.0.0/8"),
		"0000 0014 40010100 4002060201 0000fde9 400304c0000201 10 0a01 20 0a020304": {Attrs: attrs("192.0.2.1"), Announce: pre("10.1.0.0/16", "10.2.3.4/32")},
		v6Text: {Withdraw: pre("10.0.0.0/8", "fd00::/8"), Attrs: med, Announce: pre("2001::/16")},
	} {
		b, e := Encode(u)
		if e != api.OK || !bytes.Equal(b, raw(want)) {
			t.Errorf("Encode %x %v, not %s", b, e, want)
		}
		d, e := Decode(b)
		slices.SortStableFunc(u.Withdraw, func(a, b api.Prefix) int {
			if a.Addr.V6 == b.Addr.V6 {
				return 0
			} else if b.Addr.V6 {
				return -1
			}
			return 1
		})
		if e != api.OK || !reflect.DeepEqual(d, u) {
			t.Error("Decode of Encode", want, d, e)
		}
	}
}

const v6Text = "0002 080a 0037 40010100 40020602010000fde9 80040400000005 800e18 000201 10 20010db8000000000000000000000001 00 10 2001 800f05 000201 08 fd"

const (
	good4 = "40010100 40020602010000fde9 400304c0000201"
	next6 = "000201 10 20010db8000000000000000000000001 00"
)

// body4 is a body with attributes, and with announced codes.
func make4(attributes, announced string) []byte {
	a := raw(attributes)
	return append(append([]byte{0, 0, byte(len(a) >> 8), byte(len(a))}, a...), raw(announced)...)
}

func TestDecodeReset(t *testing.T) {
	codes := strings.Repeat("00", 257)
	for name, b := range map[string][]byte{
		"nothing": nil, "one byte": raw("00"), "no second length": raw("0000 00"), "length": raw("0001 0000"), "second length": raw("0000 0001"), "code": raw("0001 08 0000"), "Len 33": raw("0006 21 0a000000 00 0000"),
		"split": make4("4001", ""), "announced code": make4(good4, "09 0a"), "announced Len": make4(good4, "21 0a00000000"), "14 twice": make4("800e15"+next6+"800e15"+next6, ""), "15 twice": make4("800f03000201 800f03000201", ""),
		"15 of another family": make4("800f03000101", ""), "short 15": make4("800f020002", ""), "14 of another family": make4("800e15"+strings.Replace(next6, "01", "02", 1), ""), "14 with another length": make4("800e15"+strings.Replace(next6, "10", "20", 1), ""), "14 with a reserved byte": make4("800e15"+strings.TrimSuffix(next6, "00")+"01", ""),
		"short 14": make4("800e14"+strings.TrimSuffix(next6, "00"), ""), "code in 15": make4("800f0400020101", ""), "Len 129": make4("800f15000201 81"+strings.Repeat("00", 17), ""), "both families": make4(good4+"800e17"+next6+"08fd", "00"), "257 withdrawn": append(append(raw("0101"), raw(codes)...), 0, 0), "257 announced": make4(good4, codes),
		"unknown": make4("40c800", ""), "unknown and an error": make4("40010109 40c800", "00"),
	} {
		if u, e := Decode(b); e != api.ErrReset || !reflect.DeepEqual(u, api.Update{}) {
			t.Error("Decode", name, u, e)
		}
	}
}

func TestDecodeWithdraw(t *testing.T) {
	for name, attributes := range map[string]string{
		"origin": "40010109 40020602010000fde9 400304c0000201", "no origin": "40020602010000fde9 400304c0000201", "no path": "40010100 400304c0000201", "no next": "40010100 40020602010000fde9", "next 0": "40010100 40020602010000fde9 40030400000000",
		"others":   good4 + "c06400c06500c06600c06700c06800c06900c06a00c06b00c06c00",
		"15 of 64": good4 + "c00f03000201", "14 of 0": good4 + "000e15" + next6,
	} {
		b := make4(attributes, "08 0a")
		b = append(raw("0001 00"), b[2:]...)
		want := api.Update{Withdraw: pre("0.0.0.0/0", "10.0.0.0/8"), Attrs: attribute.Empty()}
		if u, e := Decode(b); e != api.ErrWithdraw || !reflect.DeepEqual(u, want) {
			t.Error("Decode", name, u, e)
		}
		if u, e := Decode(make4(attributes, "")); e != api.OK || !reflect.DeepEqual(u, withdraw()) {
			t.Error("Decode without announced prefixes", name, u, e)
		}
	}
	b := make4("40010100 c00e17"+next6+"08fd"+"800f05000201 08 fc", "")
	if u, e := Decode(b); e != api.ErrWithdraw || !reflect.DeepEqual(u, withdraw("fc00::/8", "fd00::/8")) {
		t.Error("Decode with V6", u, e)
	}
}

func TestDecode(t *testing.T) {
	u, e := Decode(make4(good4+"a00e15"+next6+"a00f03000201", "09 0aff"))
	if want := (api.Update{Attrs: attrs("192.0.2.1"), Announce: pre("10.128.0.0/9")}); e != api.OK || !reflect.DeepEqual(u, want) {
		t.Error("Decode with partial flags, a 14 without codes and more bits", u, e)
	}
	u, e = Decode(make4(good4+"800e17"+next6+"08fd", ""))
	if want := (api.Update{Attrs: attrs("2001:db8::1"), Announce: pre("fd00::/8")}); e != api.OK || !reflect.DeepEqual(u, want) {
		t.Error("Decode with both next hops", u, e)
	}
	empty := attrs("192.0.2.1")
	empty.Path = nil
	if u, e := Decode(make4("40010100 400200 400304c0000201", "00")); e != api.OK || !reflect.DeepEqual(u.Attrs, empty) {
		t.Error("Decode with an empty path", u, e)
	}
}

func TestEnds(t *testing.T) {
	for s, want := range map[string][2]bool{
		"00000000": {true, false}, "0000000000": {}, "000000": {}, "": {}, "0000 0006 800f03 000201": {true, true}, "0000 0007 900f0003 000201": {true, true}, "0000 0006 c00f03 000201": {true, true},
		"0000 0007 800f04 000201 00": {}, "0001 00 0006 800f03 000201": {}, "0000 0006 800f03 000201 00": {}, "0000 0005 800f02 0002": {}, "0000 000c 800f03 000201 800f03 000201": {}, "0000 000a 800f03 000201 40010100": {}, "0000 0004 40010100": {}, "0002 080a 0000": {},
	} {
		if a, b := Ends(raw(s)); [2]bool{a, b} != want {
			t.Error("Ends", s, a, b)
		}
	}
}

// Whatever bytes arrive, the result is an update, ErrReset, or ErrWithdraw.
func TestDecodeAnything(t *testing.T) {
	r := rand.New(rand.NewSource(1))
	good := raw(v6Text)
	for range 20000 {
		b := bytes.Clone(good)
		for range 1 + r.Intn(3) {
			b[r.Intn(len(b))] = byte(r.Intn(256))
		}
		u, e := Decode(b)
		if e == api.OK && !Valid(u) || e != api.OK && e != api.ErrReset && e != api.ErrWithdraw || e == api.ErrWithdraw && (len(u.Announce) > 0 || len(u.Withdraw) == 0) {
			t.Fatalf("Decode %x %v %v", b, u, e)
		}
	}
}
