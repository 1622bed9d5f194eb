package drain

import (
	"testing"

	"exchangepoint/api"
)

func TestEndsOfLoads(t *testing.T) {
	f := ring(3, 1)
	for _, l := range []api.Load{{A: 3}, {B: 3}, {A: -1}, {B: -1}} {
		if Valid(f, []api.Load{l}, nil) {
			t.Error("Valid", l)
		}
	}
	if !Valid(f, []api.Load{{A: 2, B: 2, Rate: 0}}, []api.Item{sw(0), sw(2), link(2), link(0)}) || Valid(f, nil, []api.Item{sw(3)}) || Valid(f, nil, []api.Item{sw(-1)}) {
		t.Error("Valid at the limits")
	}
}
