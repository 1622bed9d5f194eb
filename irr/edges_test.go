package irr

import (
	"testing"

	"exchangepoint/api"
)

func TestMaxIsLen(t *testing.T) {
	r := api.Registry{Objects: []api.Object{object("10.0.0.0/8", 8, 1), object("10.0.0.0/8", 8, 2), object("0.0.0.0/0", 8, 1)}}
	if !Valid(r) {
		t.Error("Max is Len")
	}
	if got := Normal(r.Objects); len(got) != 2 || got[0] != r.Objects[2] || got[1] != r.Objects[1] {
		t.Error("Normal of the same Max", got)
	}
}
