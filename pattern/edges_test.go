package pattern

import (
	"strings"
	"testing"

	"exchangepoint/api"
)

func TestTheLongestText(t *testing.T) {
	s := strings.Repeat("1 ", 199) + "11"
	n, e := Parse(s)
	if e != api.OK || Print(n) != s {
		t.Error("Parse of 400 bytes", e)
	}
	n.Kids[0] = one(10, 10)
	if Valid(n) || Print(n) != "" {
		t.Error("a text of 401 bytes")
	}
}
