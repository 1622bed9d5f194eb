package addr

import (
	"testing"

	"exchangepoint/api"
)

func TestEdges(t *testing.T) {
	want := api.Addr{Lo: 0xc0000201}
	if a, e := Parse("192.0.2.1"); e != api.OK || a != want {
		t.Error("Parse", a, e)
	}
	if a, e := FromBytes([]byte{192, 0, 2, 1}); e != api.OK || a != want {
		t.Error("FromBytes", a, e)
	}
	if a, e := Parse("ffff:ffff:ffff:ffff:ffff:ffff:255.255.255.255"); e != api.OK || a != (api.Addr{V6: true, Hi: most, Lo: most}) {
		t.Error("Parse of the longest text", a, e)
	}
	for _, s := range []string{"00001::", "ffff:ffff:ffff:ffff:ffff:ffff:255.255.255.2555", "1.2.3.1000", "::1.2.3.400"} {
		if _, e := Parse(s); e != api.ErrSyntax {
			t.Error("Parse", s, e)
		}
	}
}
