package plan

import (
	"testing"

	"exchangepoint/api"
)

func TestExactlyFull(t *testing.T) {
	loads := []api.Load{{A: 0, B: 1, Rate: 600}, {A: 0, B: 1, Rate: 400}}
	if got, e := Shed(two(), loads, []int{0, 1}, nil); e != api.OK || len(got) != 0 {
		t.Error("loads that fill a link", got, e)
	}
	loads[1].Rate++
	if got, e := Shed(two(), loads, []int{0, 1}, nil); e != api.OK || len(got) != 1 || got[0] != 0 {
		t.Error("loads that are too much by one", got, e)
	}
}
