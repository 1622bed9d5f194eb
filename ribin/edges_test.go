package ribin

import (
	"testing"

	"exchangepoint/api"
)

func TestDownAtTheBeginning(t *testing.T) {
	b := up(t, announce(5, "10.0.0.0/8"))
	if got, e := Down(b, 0, 1); e != api.OK || got.Until != 1 || !Valid(got) {
		t.Error("Down at the tick 0", got, e)
	}
	if got, e := Down(b, 0, 0); e != api.OK || len(got.Held) != 0 {
		t.Error("Down without grace", got, e)
	}
}
