package ether

import (
	"testing"

	"exchangepoint/api"
)

func TestEdges(t *testing.T) {
	for i := 2; i < 17; i += 3 {
		b := []byte("00:1a:ff:09:a0:01")
		b[i] = '-'
		if _, e := Parse(string(b)); e != api.ErrSyntax {
			t.Error("Parse", string(b), e)
		}
	}
	b, _ := Encode(api.Frame{VLAN: api.MaxVLAN, Type: api.TypeIPv4})
	if f, e := Decode(b); e != api.OK || f.VLAN != api.MaxVLAN {
		t.Error("Decode of the greatest VLAN", f, e)
	}
}
