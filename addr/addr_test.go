package addr

import (
	"bytes"
	"testing"

	"exchangepoint/api"
)

const most = 1<<64 - 1

func TestValid(t *testing.T) {
	for _, x := range []struct {
		a    api.Addr
		want bool
	}{{api.Addr{}, true}, {api.Addr{Lo: 1<<32 - 1}, true}, {api.Addr{Lo: 1 << 32}, false}, {api.Addr{Hi: 1}, false}, {api.Addr{V6: true, Hi: most, Lo: most}, true}} {
		if Valid(x.a) != x.want {
			t.Error("Valid", x.a)
		}
	}
}

func TestOrder(t *testing.T) {
	l := []api.Addr{{}, {Lo: 1}, {Lo: 1<<32 - 1}, {V6: true}, {V6: true, Lo: most}, {V6: true, Hi: 1}, {V6: true, Hi: most, Lo: most}}
	for i, a := range l {
		for k, b := range l {
			want := 0
			if i < k {
				want = -1
			} else if i > k {
				want = 1
			}
			if Cmp(a, b) != want {
				t.Error("Cmp", a, b)
			}
		}
	}
	if n, ok := Next(l[0]); !ok || n != l[1] {
		t.Error("Next of 0.0.0.0", n)
	}
	if n, ok := Next(l[4]); !ok || n != l[5] {
		t.Error("Next with a carry", n)
	}
	for _, a := range []api.Addr{l[2], l[6]} {
		if n, ok := Next(a); ok || n != (api.Addr{}) {
			t.Error("Next of the greatest", a)
		}
	}
}

func TestBytes(t *testing.T) {
	a := api.Addr{V6: true, Hi: 0x0102030405060708, Lo: 0x090a0b0c0d0e0f10}
	want := []byte{1, 2, 3, 4, 5, 6, 7, 8, 9, 10, 11, 12, 13, 14, 15, 16}
	if !bytes.Equal(Bytes(a), want) {
		t.Error("Bytes with V6", Bytes(a))
	}
	if !bytes.Equal(Bytes(api.Addr{Lo: 0xc0000201}), []byte{192, 0, 2, 1}) {
		t.Error("Bytes without V6")
	}
	if len(Bytes(api.Addr{Hi: 1})) != 0 {
		t.Error("Bytes of no address")
	}
	for n := range 20 {
		b, e := FromBytes(make([]byte, n))
		if (e == api.OK) != (n == 4 || n == 16) || e != api.OK && (e != api.ErrArg || b != api.Addr{}) {
			t.Error("FromBytes of", n, "bytes", e)
		}
	}
	if b, e := FromBytes(want); e != api.OK || b != a {
		t.Error("FromBytes", b, e)
	}
}

func TestTexts(t *testing.T) {
	for _, x := range [][2]string{
		{"192.0.2.1", "192.0.2.1"}, {"2001:DB8:0:0:1:0:0:1", "2001:db8::1:0:0:1"}, {"::ffff:1.2.3.4", "::ffff:102:304"},
		{"1:2:3:4:5:6:7::", "1:2:3:4:5:6:7:0"}, {"::", "::"}, {"1::", "1::"}, {"1:0:0:2:0:0:0:3", "1:0:0:2::3"},
		{"1:2:3:4:5:6:1.2.3.4", "1:2:3:4:5:6:102:304"}, {"0:2:3:4:5:6:7:8", "0:2:3:4:5:6:7:8"},
	} {
		a, e := Parse(x[0])
		if e != api.OK || Print(a) != x[1] {
			t.Error("Parse", x[0], Print(a), e)
		}
		if b, e := Parse(Print(a)); e != api.OK || a != b {
			t.Error("Parse of Print", x[1])
		}
	}
	for _, s := range []string{"", "1.2.3", "1.2.3.04", "1.2.3.256", "1.2.3.+4", "1.2.3.4.5", "1:2:3:4:5:6:7", "1:2:3:4:5:6:7::8", "1:2:3:4:5:6:7:8:9", ":::", "1:::2", "1::2::3", ":1:2:3:4:5:6:7", "12345::", "0x1::", "+1::", "1_2::", "1.2.3.4::", "1.2.3.4:1::", "::1.2.3.4:5", "::1.2.3", "::01.2.3.4"} {
		if a, e := Parse(s); e != api.ErrSyntax || a != (api.Addr{}) {
			t.Error("Parse", s, a, e)
		}
	}
	if Print(api.Addr{Hi: 1}) != "" {
		t.Error("Print of no address")
	}
}
