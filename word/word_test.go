package word

import (
	"strings"
	"testing"
)

func TestName(t *testing.T) {
	for s, want := range map[string]bool{"": false, "AS-Set:1": true, "-": true, "a b": false, "ä": false, "a_b": false, "azAZ09-:": true, "a/b": false, "a;b": false, "a@b": false, "a[b": false, "a`b": false, "a{b": false, strings.Repeat("x", 32): true, strings.Repeat("x", 33): false} {
		if Name(s) != want {
			t.Error("Name", s)
		}
	}
}

func TestNumber(t *testing.T) {
	for s, want := range map[string]int{"0": 0, "7": 7, "10": 10, "11": -1, "": -1, "07": -1, "+7": -1, "-0": -1, "-7": -1, "1_0": -1, "99999999999999999999": -1} {
		if n, ok := Number(s, 10); ok != (want >= 0) || ok && n != want || !ok && n != 0 {
			t.Error("Number", s, n, ok)
		}
	}
}
