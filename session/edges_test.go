package session

import (
	"testing"

	"exchangepoint/api"
)

func TestEdges(t *testing.T) {
	for _, asn := range []int{23455, 23456, 23457, 65535, 65536} {
		o := api.Open{ASN: asn, ID: 1, Role: -1, Grace: 0x100}
		b, e := Encode(o)
		if got, e2 := Decode(b); e != api.OK || e2 != api.OK || got != o {
			t.Error("Decode of Encode", asn, got, e, e2)
		}
	}
	for s, want := range map[string]api.Errno{"04 5ba0 0000 00000001 08 02 06 41 04 0000ffff": api.ErrForm, "04 5ba0 0000 00000001 08 02 06 41 04 00010000": api.OK, "04 5ba0 0000 00000001 00": api.OK} {
		if _, e := Decode(raw(s)); e != want {
			t.Error("Decode", s, e)
		}
	}
	for _, asn := range []int{1, api.MaxASN} {
		if _, _, e := Start(api.Session{Mine: mine(), ASN: asn}, 0); e != api.OK {
			t.Error("Start with AS", asn, e)
		}
	}
	s := in(api.StateUp)
	s.Sent, s.Heard = 5, 20
	if out, l := Tick(s, 20); len(l) != 1 || out.Sent != 20 {
		t.Error("Tick when something was just heard", out, l)
	}
	for _, x := range [][3]int{{-1, api.RoleClient, api.StateConfirm}, {api.RoleServer, -1, api.StateConfirm}, {-1, -1, api.StateConfirm}, {api.RolePeer, api.RoleProvider, api.StateIdle}, {api.RoleProvider, api.RoleCustomer, api.StateConfirm}} {
		s, o := in(api.StateOpen), theirs()
		s.Mine.Role, o.Role = x[0], x[1]
		if out, _, _ := Receive(s, open(o), 9); out.State != x[2] {
			t.Error("roles", x, out.State)
		}
	}
}
