package bounds

import (
	"testing"

	"exchangepoint/api"
)

func TestBounds(t *testing.T) {
	for n, want := range map[int]bool{2: false, 3: true, 5: true, 6: false} {
		if Within(n, 3, 5) != want {
			t.Error("Within", n)
		}
	}
	for n, want := range map[int]bool{-1: false, 0: false, 1: true, 1<<32 - 1: true, 1 << 32: false} {
		if ASN(n) != want {
			t.Error("ASN", n)
		}
	}
	if Width(api.Addr{}) != 32 || Width(api.Addr{V6: true}) != 128 {
		t.Error("Width")
	}
}
