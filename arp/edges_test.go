package arp

import (
	"testing"

	"exchangepoint/api"
)

func TestOpHasTwoBytes(t *testing.T) {
	b, _ := Encode(Request(mac, one, two))
	for i := range 8 {
		c := append([]byte{}, b...)
		c[6] = 1 << i
		if _, e := Decode(c); e != api.ErrForm {
			t.Error("Decode", c[6:8], e)
		}
	}
}
