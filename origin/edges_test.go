package origin

import (
	"slices"
	"testing"

	"exchangepoint/api"
)

func TestLimits(t *testing.T) {
	certs := slices.Repeat([]api.Cert{cert(1, 1, "10.0.0.0/8")}, api.MaxObjects)
	l := slices.Repeat([]api.Signed{signed(1, api.MaxASN, 32, "10.1.2.0/24")}, api.MaxObjects)
	got, e := Payloads(certs, l, []int{1}, 15)
	if e != api.OK || len(got) != 1 || got[0].ASN != api.MaxASN {
		t.Error("Payloads at the limits", got, e)
	}
	one := []api.Object{{Prefix: pre("10.0.0.0/8"), Max: 8, ASN: 1}}
	if s, _ := State(one, pre("10.0.0.0/8"), 1); s != api.OriginValid {
		t.Error("State of AS 1", s)
	}
}
