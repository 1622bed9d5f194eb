package fabric

import (
	"testing"

	"exchangepoint/api"
)

func TestEightSwitches(t *testing.T) {
	f := api.Fabric{Switches: api.MaxSwitches, Dead: make([]bool, api.MaxSwitches)}
	for i := range 7 {
		f.Links, f.Down = append(f.Links, api.Link{A: i, B: i + 1, Capacity: 1 + i}), append(f.Down, false)
	}
	if d := Distances(f, 7); !Valid(f) || d[0] != 7 || len(Cuts(f)) != 7 || Flow(f, 0, 7) != 1 || Flow(f, 7, 2) != 3 {
		t.Error("a chain of eight switches", d)
	}
}
