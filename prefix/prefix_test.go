package prefix

import (
	"strings"
	"testing"

	"exchangepoint/addr"
	"exchangepoint/api"
)

func pre(t *testing.T, s string) api.Prefix {
	t.Helper()
	p, e := Parse(s)
	if e != api.OK {
		t.Fatal(s, e)
	}
	return p
}

func at(t *testing.T, s string) api.Addr {
	t.Helper()
	a, e := addr.Parse(s)
	if e != api.OK {
		t.Fatal(s, e)
	}
	return a
}

func TestValidAndOrder(t *testing.T) {
	for _, p := range []api.Prefix{{Len: -1}, {Len: 33}, {Addr: api.Addr{Hi: 1}, Len: 0}, {Addr: api.Addr{Lo: 1}, Len: 31}, {Addr: api.Addr{V6: true}, Len: 129}, {Addr: api.Addr{V6: true, Hi: 1}, Len: 63}, {Addr: api.Addr{V6: true, Lo: 1}, Len: 127}} {
		if Valid(p) || Print(p) != "" {
			t.Error("Valid", p)
		}
	}
	l := []string{"0.0.0.0/0", "0.0.0.0/32", "10.0.0.0/8", "10.0.0.0/9", "10.128.0.0/9", "255.255.255.255/32", "::/0", "::/128", "::1/128", "8000::/1"}
	for i := range l {
		for k := range l {
			p, q := pre(t, l[i]), pre(t, l[k])
			if c := Cmp(p, q); (c < 0) != (i < k) || (c > 0) != (i > k) || c*c > 1 {
				t.Error("Cmp", l[i], l[k], c)
			}
		}
		if !Valid(pre(t, l[i])) || Print(pre(t, l[i])) != l[i] {
			t.Error("Valid or Print", l[i])
		}
	}
}

func TestBit(t *testing.T) {
	a := at(t, "128.0.0.1")
	if Bit(a, 0) != 1 || Bit(a, 1) != 0 || Bit(a, 31) != 1 || Bit(a, 32) != 0 || Bit(a, -1) != 0 {
		t.Error("Bit without V6")
	}
	b := at(t, "8000::1:0:0:1")
	if Bit(b, 0) != 1 || Bit(b, 63) != 0 || Bit(b, 79) != 1 || Bit(b, 127) != 1 || Bit(b, 128) != 0 {
		t.Error("Bit with V6")
	}
}

func TestMake(t *testing.T) {
	for _, x := range []struct {
		a    api.Addr
		n    int
		want string
		e    api.Errno
	}{
		{at(t, "10.1.2.3"), 8, "10.0.0.0/8", 0}, {at(t, "10.1.2.3"), 32, "10.1.2.3/32", 0}, {at(t, "10.1.2.3"), 0, "0.0.0.0/0", 0},
		{at(t, "1:2:3:4:5:6:7:8"), 64, "1:2:3:4::/64", 0}, {at(t, "1:2:3:4:5:6:7:8"), 80, "1:2:3:4:5::/80", 0},
		{at(t, "10.1.2.3"), 33, "", api.ErrRange}, {at(t, "::"), 129, "", api.ErrRange}, {at(t, "::"), -1, "", api.ErrRange}, {api.Addr{Hi: 1}, -1, "", api.ErrArg},
	} {
		if p, e := Make(x.a, x.n); e != x.e || e == api.OK && Print(p) != x.want || e != api.OK && p != (api.Prefix{}) {
			t.Error("Make", x.a, x.n, Print(p), e)
		}
	}
}

func TestContains(t *testing.T) {
	p := pre(t, "10.1.0.0/16")
	if !Contains(p, at(t, "10.1.0.0")) || !Contains(p, at(t, "10.1.255.255")) || Contains(p, at(t, "10.2.0.0")) || Contains(p, at(t, "::a01:0")) || Contains(pre(t, "::/0"), at(t, "10.1.0.0")) {
		t.Error("Contains")
	}
	if Last(p) != at(t, "10.1.255.255") || Last(pre(t, "1::/20")) != at(t, "1:fff:ffff:ffff:ffff:ffff:ffff:ffff") || Last(pre(t, "::1/128")) != at(t, "::1") {
		t.Error("Last")
	}
	for _, x := range []struct {
		p, q string
		want bool
	}{{"10.0.0.0/8", "10.0.0.0/8", true}, {"10.0.0.0/8", "10.1.0.0/16", true}, {"10.1.0.0/16", "10.0.0.0/8", false}, {"10.0.0.0/16", "10.0.0.0/8", false}, {"0.0.0.0/0", "::/0", false}, {"::/0", "1::/16", true}} {
		if Covers(pre(t, x.p), pre(t, x.q)) != x.want {
			t.Error("Covers", x)
		}
	}
}

func TestHalvesAndCommon(t *testing.T) {
	for _, x := range [][3]string{{"10.0.0.0/8", "10.0.0.0/9", "10.128.0.0/9"}, {"::/63", "::/64", "0:0:0:1::/64"}, {"::/64", "::/65", "::8000:0:0:0/65"}, {"0.0.0.0/31", "0.0.0.0/32", "0.0.0.1/32"}} {
		a, b, e := Halves(pre(t, x[0]))
		if e != api.OK || Print(a) != x[1] || Print(b) != x[2] {
			t.Error("Halves", x, Print(a), Print(b), e)
		}
		if c, e := Common(a, b); e != api.OK || Print(c) != x[0] {
			t.Error("Common of Halves", x)
		}
	}
	if _, _, e := Halves(api.Prefix{Len: 40}); e != api.ErrArg {
		t.Error("Halves of an invalid one", e)
	}
	if _, _, e := Halves(pre(t, "::1/128")); e != api.ErrRange {
		t.Error("Halves of one address", e)
	}
	for _, x := range [][3]string{{"10.0.0.0/24", "10.0.1.0/24", "10.0.0.0/23"}, {"10.0.0.0/8", "10.1.0.0/16", "10.0.0.0/8"}, {"1::/64", "1::1/128", "1::/64"}, {"1::2/128", "1::3/128", "1::2/127"}, {"::/1", "8000::/1", "::/0"}} {
		if c, e := Common(pre(t, x[0]), pre(t, x[1])); e != api.OK || Print(c) != x[2] {
			t.Error("Common", x, Print(c))
		}
	}
	if _, e := Common(api.Prefix{Len: -1}, pre(t, "::/0")); e != api.ErrArg {
		t.Error("Common of an invalid one", e)
	}
	if _, e := Common(pre(t, "0.0.0.0/0"), pre(t, "::/0")); e != api.ErrRange {
		t.Error("Common of two families", e)
	}
}

func TestParse(t *testing.T) {
	for s, want := range map[string]api.Errno{
		"10.0.0.0/8": 0, "::/0": 0, "1:0::/16": 0, "10.1.0.0/8": api.ErrForm, "10.0.0.0/33": api.ErrRange, "10.0.0.1/" + strings.Repeat("9", 40): api.ErrRange,
		"10.0.0.0": api.ErrSyntax, "10.0.0.0/": api.ErrSyntax, "10.0.0.0/08": api.ErrSyntax, "10.0.0.0/+8": api.ErrSyntax, "10.0.0.0/8/8": api.ErrSyntax, "/8": api.ErrSyntax, "10.0.0/8": api.ErrSyntax, "10.0.0.0/8 ": api.ErrSyntax, "10.0.0.0/00": api.ErrSyntax, "10.0.0.0/-1": api.ErrSyntax,
	} {
		if p, e := Parse(s); e != want || e != api.OK && p != (api.Prefix{}) {
			t.Error("Parse", s, e)
		}
	}
}
