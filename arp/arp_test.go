package arp

import (
	"bytes"
	"testing"

	"exchangepoint/api"
)

var (
	one = api.Addr{Lo: 0xc0000201}
	two = api.Addr{Lo: 0xc0000202}
	mac = api.MAC{2, 0, 0, 0, 0, 1}
)

func TestRequestAndReply(t *testing.T) {
	q := Request(mac, one, two)
	if q != (api.ARP{Op: 1, FromMAC: mac, From: one, To: two}) || !Valid(q) || Own(q) || !Own(Request(mac, one, one)) {
		t.Error("Request", q)
	}
	if r := Reply(q, api.MAC{4}); r != (api.ARP{Op: 2, FromMAC: api.MAC{4}, From: two, ToMAC: mac, To: one}) {
		t.Error("Reply", r)
	}
}

func TestEncode(t *testing.T) {
	q := api.ARP{Op: 2, FromMAC: mac, From: one, ToMAC: api.MAC{9, 8, 7, 6, 5, 4}, To: two}
	want := []byte{0, 1, 8, 0, 6, 4, 0, 2, 2, 0, 0, 0, 0, 1, 192, 0, 2, 1, 9, 8, 7, 6, 5, 4, 192, 0, 2, 2}
	b, e := Encode(q)
	if e != api.OK || !bytes.Equal(b, want) {
		t.Error("Encode", b, e)
	}
	if a, e := Decode(append(b, 1, 2, 3)); e != api.OK || a != q {
		t.Error("Decode", a, e)
	}
	for _, a := range []api.ARP{{Op: 0}, {Op: 3}, {Op: 1, From: api.Addr{V6: true}}, {Op: 1, To: api.Addr{V6: true}}, {Op: 1, To: api.Addr{Hi: 1}}} {
		if b, e := Encode(a); Valid(a) || e != api.ErrArg || len(b) > 0 {
			t.Error("Encode of", a, e)
		}
	}
}

func TestDecodeErrors(t *testing.T) {
	b, _ := Encode(Request(mac, one, two))
	if a, e := Decode(b[:27]); e != api.ErrShort || a != (api.ARP{}) {
		t.Error("Decode of 27 bytes", e)
	}
	for i := range 8 {
		c := bytes.Clone(b)
		c[i] ^= 4
		if a, e := Decode(c); e != api.ErrForm || a != (api.ARP{}) {
			t.Error("Decode with another byte at", i, e)
		}
	}
	b[7] = 0
	if _, e := Decode(b); e != api.ErrForm {
		t.Error("Decode with Op 0", e)
	}
}
