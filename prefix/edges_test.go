package prefix

import "testing"

func TestBitsInTheMiddle(t *testing.T) {
	for i, s := range map[int]string{62: "::2:0:0:0:0", 63: "::1:0:0:0:0", 64: "::8000:0:0:0", 65: "::4000:0:0:0"} {
		for k := range 128 {
			want := 0
			if k == i {
				want = 1
			}
			if Bit(at(t, s), k) != want {
				t.Error("Bit", s, k)
			}
		}
	}
}
