package neighbor

import (
	"bytes"
	"testing"

	"exchangepoint/addr"
	"exchangepoint/api"
)

func TestEdges(t *testing.T) {
	for flags := range 8 {
		n := api.Neighbor{Kind: 136, Target: goal, Flags: flags}
		p, e := Encode(n, src, dst)
		if got, e2 := Decode(p); e != api.OK || e2 != api.OK || got != n {
			t.Error("flags", flags, got, e, e2)
		}
	}
	p, _ := Encode(api.Neighbor{Kind: 137, Target: goal}, src, dst)
	if !bytes.Equal(p.Data[8:24], addr.Bytes(goal)) || !bytes.Equal(p.Data[24:40], addr.Bytes(goal)) {
		t.Error("a redirect has the target twice", p.Data)
	}
}
