package sample

import (
	"testing"

	"exchangepoint/api"
)

func TestLimits(t *testing.T) {
	if !Valid([]api.Sample{{In: 1, Out: 1}}) {
		t.Error("the least sample")
	}
	if got, e := Pick(1000, 1, 0); e != api.OK || len(got) != 1000 {
		t.Error("Pick of 1000", len(got), e)
	}
	if got, e := Pick(1, 1, 0); e != api.OK || len(got) != 1 {
		t.Error("Pick of one", got, e)
	}
	all := many(1000)
	if got, e := Merge(all[:400], all[300:]); e != api.OK || len(got) != 1000 {
		t.Error("Merge to 1000", len(got), e)
	}
	if _, e := Merge([]api.Sample{{In: 1, Out: 1, Bytes: 1}}, []api.Sample{{In: 1, Out: 1, Bytes: 2}}); e != api.ErrExists {
		t.Error("Merge of two first ones", e)
	}
}
