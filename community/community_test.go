package community

import (
	"slices"
	"strings"
	"testing"

	"exchangepoint/api"
)

type com = api.Community
type big = api.Large

func full() ([]com, []big) {
	var l []com
	var m []big
	for i := range api.MaxComm {
		l = append(l, com{A: 1, B: i})
		m = append(m, big{A: 1, B: 1, C: i})
	}
	return l, m
}

func TestValid(t *testing.T) {
	l, m := full()
	if !Valid(nil) || !Valid(l) || !Valid([]com{{A: 0, B: 65535}, {A: 65535, B: 0}}) || !ValidLarge(nil) || !ValidLarge(m) || !ValidLarge([]big{{A: 0, B: 0, C: api.MaxASN}, {A: 0, B: 1, C: 0}, {A: api.MaxASN, B: api.MaxASN, C: 0}}) {
		t.Error("valid lists")
	}
	for _, l := range [][]com{append(l, com{A: 2}), {{A: -1}}, {{B: -1}}, {{A: 65536}}, {{B: 65536}}, {{A: 1}, {A: 1}}, {{A: 1, B: 2}, {A: 1, B: 1}}, {{A: 2}, {A: 1, B: 9}}} {
		if Valid(l) {
			t.Error("Valid", l)
		}
		if _, e := Add(l, com{A: -1}); e != api.ErrArg {
			t.Error("Add to an invalid list", e)
		}
	}
	for _, m := range [][]big{append(m, big{A: 2}), {{A: -1}}, {{B: -1}}, {{C: -1}}, {{A: api.MaxASN + 1}}, {{B: api.MaxASN + 1}}, {{C: api.MaxASN + 1}}, {{A: 1}, {A: 1}}, {{C: 2}, {C: 1}}, {{B: 2}, {B: 1, C: 5}}, {{A: 2}, {A: 1, B: 5}}} {
		if ValidLarge(m) {
			t.Error("ValidLarge", m)
		}
		if _, e := AddLarge(m, big{}); e != api.ErrArg {
			t.Error("AddLarge to an invalid list", e)
		}
	}
}

func TestAdd(t *testing.T) {
	l, m := full()
	if got, e := Add([]com{{A: 1}, {A: 3}}, com{A: 2, B: 5}); e != api.OK || !slices.Equal(got, []com{{A: 1}, {A: 2, B: 5}, {A: 3}}) {
		t.Error("Add", got, e)
	}
	if got, e := AddLarge([]big{{A: 1}, {A: 3}}, big{A: 1, C: 1}); e != api.OK || !slices.Equal(got, []big{{A: 1}, {A: 1, C: 1}, {A: 3}}) {
		t.Error("AddLarge", got, e)
	}
	if got, e := Add(l, l[3]); e != api.OK || !slices.Equal(got, l) {
		t.Error("Add of what is there", e)
	}
	if got, e := AddLarge(m, m[3]); e != api.OK || !slices.Equal(got, m) {
		t.Error("AddLarge of what is there", e)
	}
	if got, e := Add(l, com{A: 9}); e != api.ErrLimit || len(got) > 0 {
		t.Error("Add to a full list", e)
	}
	if got, e := AddLarge(m, big{A: 9}); e != api.ErrLimit || len(got) > 0 {
		t.Error("AddLarge to a full list", e)
	}
	if _, e := Add(l, com{A: 65536}); e != api.ErrArg {
		t.Error("Add of an invalid one", e)
	}
	if _, e := AddLarge(m, big{C: -1}); e != api.ErrArg {
		t.Error("AddLarge of an invalid one", e)
	}
}

func TestRemoveAndHas(t *testing.T) {
	l := []com{{A: 5, B: -1}, {A: 1}, {A: 5, B: -1}}
	if got := Remove(l, l[0]); !slices.Equal(got, l[1:2]) || !Has(l, com{A: 5, B: -1}) || Has(l, com{A: 5}) || l[2].A != 5 {
		t.Error("Remove or Has", got)
	}
	m := []big{{A: 5, B: -1}, {A: 1}, {A: 5, B: -1}}
	if got := RemoveLarge(m, m[0]); !slices.Equal(got, m[1:2]) || !HasLarge(m, m[0]) || HasLarge(m, big{A: 5}) {
		t.Error("RemoveLarge or HasLarge", got)
	}
}

func TestTexts(t *testing.T) {
	for _, s := range []string{"", "65000:1 65535:666 65000:1:2", "0:0", "0:0:0 0:0:4294967295"} {
		l, m, e := Parse(s)
		if e != api.OK || Print(l, m) != s {
			t.Error("Parse", s, l, m, e)
		}
	}
	l, m, _ := Parse("65000:1 65535:666 65000:1:2")
	if !slices.Equal(l, []com{{A: 65000, B: 1}, {A: 65535, B: 666}}) || !slices.Equal(m, []big{{A: 65000, B: 1, C: 2}}) {
		t.Error("Parse", l, m)
	}
	for _, s := range []string{" ", "1", "1:", ":1", "1:2:3:4", "1:2 ", "1:2  1:3", "01:2", "65536:1", "1:65536", "1:2:4294967296", "-1:2", "1:2:3 1:2", "1:3 1:2", "1:2 1:2", "1:1:2 1:1:1", "a:b", strings.TrimSpace(strings.Repeat("1:1 ", 2))} {
		if l, m, e := Parse(s); e != api.ErrSyntax || len(l)+len(m) > 0 {
			t.Error("Parse", s, l, m, e)
		}
	}
	if _, _, e := Parse(strings.Repeat("1", 65537)); e != api.ErrLimit {
		t.Error("Parse of a long text", e)
	}
	if _, _, e := Parse(strings.Repeat("1", 65536)); e != api.ErrSyntax {
		t.Error("Parse at the limit", e)
	}
	if Print([]com{{A: -1}}, nil) != "" || Print(nil, []big{{A: -1}}) != "" {
		t.Error("Print of invalid lists")
	}
}
