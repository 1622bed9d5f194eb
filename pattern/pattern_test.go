package pattern

import (
	"math/rand"
	"reflect"
	"strings"
	"testing"

	"exchangepoint/api"
	"exchangepoint/aspath"
)

func one(from, to int) api.Node { return api.Node{Op: api.PatRange, From: from, To: to} }

func node(op int, kids ...api.Node) api.Node { return api.Node{Op: op, Kids: kids} }

func TestTexts(t *testing.T) {
	dot := one(1, api.MaxASN)
	for s, want := range map[string]api.Node{
		".": dot, "7": one(7, 7), "1-4294967294": one(1, 4294967294), "()": node(api.PatSeq), "()*": node(api.PatStar, node(api.PatSeq)), "7**": node(api.PatStar, node(api.PatStar, one(7, 7))),
		"65001 .* 65010-65019": node(api.PatSeq, one(65001, 65001), node(api.PatStar, dot), one(65010, 65019)),
		"(1|2 3)+":             node(api.PatPlus, node(api.PatAlt, one(1, 1), node(api.PatSeq, one(2, 2), one(3, 3)))),
		"1|2 3|()":             node(api.PatAlt, one(1, 1), node(api.PatSeq, one(2, 2), one(3, 3)), node(api.PatSeq)),
		"(1 2)? (3|4)":         node(api.PatSeq, node(api.PatOpt, node(api.PatSeq, one(1, 1), one(2, 2))), node(api.PatAlt, one(3, 3), one(4, 4))),
	} {
		n, e := Parse(s)
		if e != api.OK || !reflect.DeepEqual(n, want) || !Valid(n) || Print(want) != s {
			t.Error("Parse", s, n, e, Print(want))
		}
	}
	for _, s := range []string{"", " ", "(1)", "(1|2)", "1  2", "1 ", "1|", "|1", "*", "1-1", "2-1", "1-4294967295", "0", "0-5", "01", "4294967296", "1-", "-1", "(1", "1)", "((1|2))*", "(1 2) 3", "1|(2|3)", "(1 2)|3", "() 1 ()x", "1 (2 3)", "a", "1 (())", "(7*)*", "99999999999999999999"} {
		if n, e := Parse(s); e != api.ErrSyntax || !reflect.DeepEqual(n, api.Node{}) {
			t.Error("Parse", s, n, e)
		}
	}
	if _, e := Parse(strings.Repeat("1", 401)); e != api.ErrLimit {
		t.Error("Parse of a long text", e)
	}
	if _, e := Parse(strings.Repeat("1", 400)); e != api.ErrSyntax {
		t.Error("Parse of a text at the limit", e)
	}
	if _, e := Parse(strings.Repeat("1 ", 199) + "1"); e != api.OK {
		t.Error("Parse of a long sequence", e)
	}
	if n, e := Parse("7" + strings.Repeat("*", 15)); e != api.OK || !Valid(n) {
		t.Error("Parse of the depth 16", e)
	}
	if _, e := Parse("7" + strings.Repeat("*", 16)); e != api.ErrSyntax {
		t.Error("Parse of the depth 17", e)
	}
}

func TestInvalid(t *testing.T) {
	wide := node(api.PatSeq)
	for range 201 {
		wide.Kids = append(wide.Kids, one(1, 1))
	}
	deep := one(1, 1)
	for range 16 {
		deep = node(api.PatStar, deep)
	}
	many := one(1, 1)
	for range 40 {
		many = node(api.PatAlt, node(api.PatSeq, many, many), node(api.PatSeq, many, many))
	}
	for _, n := range []api.Node{
		{}, {Op: 7, Kids: []api.Node{one(1, 1)}}, one(0, 1), one(2, 1), one(1, 1<<32), {Op: api.PatRange, From: 1, To: 1, Kids: []api.Node{one(1, 1)}}, {Op: api.PatSeq, From: 1}, {Op: api.PatStar, To: 1, Kids: []api.Node{one(1, 1)}},
		node(api.PatSeq, one(1, 1)), node(api.PatSeq, node(api.PatSeq), one(1, 1)), node(api.PatAlt), node(api.PatAlt, one(1, 1)), node(api.PatAlt, one(1, 1), node(api.PatAlt, one(1, 1), one(1, 1))),
		node(api.PatStar), node(api.PatPlus, one(1, 1), one(1, 1)), node(api.PatOpt), wide, deep, many, node(api.PatStar, one(0, 0)),
	} {
		if Valid(n) || Print(n) != "" || Match(n, nil) || Any(n) {
			t.Error("Valid", n.Op, len(n.Kids))
		}
	}
}

func match(t *testing.T, pattern, path string, want bool) {
	t.Helper()
	n, e := Parse(pattern)
	p, e2 := aspath.Parse(path)
	if e != api.OK || e2 != api.OK {
		t.Fatal(pattern, path, e, e2)
	}
	if Match(n, p) != want {
		t.Error("Match", pattern, "and", path)
	}
}

func TestMatch(t *testing.T) {
	match(t, "65001 .* 65010-65019", "65001 7 65012", true)
	match(t, "65001 .* 65010-65019", "65001 65010", true)
	match(t, "65001 .* 65010-65019", "65001", false)
	match(t, "1-5", "{1,5}", true)
	match(t, "1-5", "{1,6}", false)
	match(t, "1-5 .", "{1,5} {7}", true)
	match(t, "()", "", true)
	match(t, "()", "1", false)
	match(t, "()+", "", true)
	match(t, "(1|2 3)+", "2 3 1 2 3", true)
	match(t, "(1|2 3)+", "2 1", false)
	match(t, "(1|2 3)+", "", false)
	match(t, "(1|2 3)*", "", true)
	match(t, "1?", "1 1", false)
	match(t, "1? 1?", "1", true)
	match(t, "(1 1)* 1", "1 1 1", true)
	match(t, "(1 1)* 1", "1 1", false)
	match(t, "1**?+", strings.TrimSpace(strings.Repeat("1 ", 64)), true)
	n, _ := Parse(".*")
	if Match(n, []api.Segment{{ASNs: []int{0}}}) {
		t.Error("Match of an invalid path")
	}
}

func TestAny(t *testing.T) {
	for s, want := range map[string]bool{"1": false, "()": true, "1*": true, "1?": true, "1+": false, "(1?)+": true, "1* 2?": true, "1* 2": false, "1|2": false, "1|2*": true, "1|()": true} {
		n, e := Parse(strings.ReplaceAll(s, "(1?)+", "1?+"))
		if e != api.OK || Any(n) != want || Match(n, nil) != want {
			t.Error("Any", s, e)
		}
	}
}

// lists says by the definition whether a node stands for a list of numbers.
func lists(n api.Node, l []int) bool {
	switch n.Op {
	case api.PatRange:
		return len(l) == 1 && l[0] >= n.From && l[0] <= n.To
	case api.PatSeq:
		if len(n.Kids) == 0 {
			return len(l) == 0
		}
		for i := range len(l) + 1 {
			if lists(n.Kids[0], l[:i]) && lists(api.Node{Op: api.PatSeq, Kids: n.Kids[1:]}, l[i:]) {
				return true
			}
		}
		return false
	case api.PatAlt:
		for _, k := range n.Kids {
			if lists(k, l) {
				return true
			}
		}
		return false
	}
	if len(l) == 0 {
		return n.Op != api.PatPlus || lists(n.Kids[0], l)
	}
	if n.Op == api.PatOpt {
		return lists(n.Kids[0], l)
	}
	for i := 1; i <= len(l); i++ {
		if lists(n.Kids[0], l[:i]) && (i == len(l) || lists(api.Node{Op: api.PatStar, Kids: n.Kids}, l[i:])) {
			return true
		}
	}
	return false
}

func random(r *rand.Rand, depth int) api.Node {
	if depth == 0 || r.Intn(4) == 0 {
		a := 1 + r.Intn(3)
		return one(a, a+r.Intn(2))
	}
	n := api.Node{Op: 2 + r.Intn(5), Kids: []api.Node{random(r, depth-1)}}
	if n.Op == api.PatSeq || n.Op == api.PatAlt {
		n.Kids = append(n.Kids, random(r, depth-1))
	}
	return n
}

func TestMatchIsTheDefinition(t *testing.T) {
	r := rand.New(rand.NewSource(1))
	for range 3000 {
		n := random(r, 4)
		if !Valid(n) {
			continue
		}
		if m, e := Parse(Print(n)); e != api.OK || !reflect.DeepEqual(n, m) {
			t.Fatal("Parse of Print", Print(n), e)
		}
		var l []int
		for range r.Intn(6) {
			l = append(l, 1+r.Intn(4))
		}
		var p []api.Segment
		if len(l) > 0 {
			p = []api.Segment{{ASNs: l}}
		}
		if Match(n, p) != lists(n, l) {
			t.Fatal("Match", Print(n), l)
		}
	}
}
