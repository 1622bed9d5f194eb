package update

import (
	"reflect"
	"testing"

	"exchangepoint/api"
	"exchangepoint/attribute"
)

func TestTheLongestBody(t *testing.T) {
	u := api.Update{Withdraw: many(256, false), Attrs: attrs("192.0.2.1"), Announce: many(256, false)}
	for i, n := range []int{255, 255, 255, 255, 255, 200} {
		u.Attrs.Other = append(u.Attrs.Other, api.Unknown{Flags: 224, Type: 100 + i, Data: make([]byte, n)})
	}
	b, e := Encode(u)
	if e != api.OK || Size(u) != api.MaxMessage {
		t.Fatal("the longest body", Size(u), e)
	}
	if back, e := Decode(b); e != api.OK || !reflect.DeepEqual(u, back) {
		t.Error("Decode", e)
	}
	u.Attrs.Other[5].Data = make([]byte, 201)
	if Valid(u) || Size(u) != 0 {
		t.Error("a body that is too long")
	}
	six := api.Update{Attrs: attrs("2001:db8::1"), Announce: many(112, true)}
	b, e = Encode(six)
	if back, e2 := Decode(b); e != api.OK || e2 != api.OK || !reflect.DeepEqual(six, back) {
		t.Error("Decode with V6", e, e2)
	}
	if b, _ := Frame(api.Message{Type: api.MsgKeepalive}); len(b) != 19 {
		t.Error("Frame of an empty body", b)
	} else if m, n, e := Parse(b); e != api.OK || n != 19 || m.Type != api.MsgKeepalive || len(m.Body) != 0 {
		t.Error("Parse of an empty body", m, n, e)
	}
	if u, e := Decode([]byte{0, 0, 0, 0}); e != api.OK || !reflect.DeepEqual(u, api.Update{Attrs: attribute.Empty()}) {
		t.Error("the empty update", u, e)
	}
}
