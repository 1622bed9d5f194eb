package packet

import (
	"bytes"
	"reflect"
	"testing"

	"exchangepoint/api"
)

var (
	four1 = api.Addr{Lo: 0xc0000201}
	four2 = api.Addr{Lo: 0xc0000202}
	six1  = api.Addr{V6: true, Hi: 0x20010db8 << 32, Lo: 1}
	six2  = api.Addr{V6: true, Hi: 0x20010db8 << 32, Lo: 2}
)

func TestSum(t *testing.T) {
	for _, x := range []struct {
		b    []byte
		want uint16
	}{{[]byte{0, 1, 0xf2, 3, 0xf4, 0xf5, 0xf6, 0xf7}, 0x220d}, {nil, 0xffff}, {[]byte{1}, 0xfeff}, {[]byte{0xff, 0xff}, 0}, {[]byte{0xff, 0xff, 0, 1}, 0xfffe}, {[]byte{0x12, 0x34, 0x56}, 0xffff - 0x1234 - 0x5600}} {
		if Sum(x.b) != x.want {
			t.Errorf("Sum %x %x", x.b, Sum(x.b))
		}
	}
	all := bytes.Repeat([]byte{0xff, 0xfe}, 100000)
	if s := Sum(all); Sum(append(all, byte(s>>8), byte(s))) != 0 {
		t.Error("Sum with its own sum")
	}
	b := append(append([]byte{0x20, 1, 0xd, 0xb8, 0, 0, 0, 0, 0, 0, 0, 0, 0, 0, 0, 1}, 0x20, 1, 0xd, 0xb8, 0, 0, 0, 0, 0, 0, 0, 0, 0, 0, 0, 2), 0, 0, 0, 3, 0, 0, 0, 58, 7, 8, 9)
	if Check(six1, six2, 58+256, []byte{7, 8, 9}) != Sum(b) || Check(six1, six2, 58-256, []byte{7, 8, 9}) != Sum(b) {
		t.Error("Check")
	}
}

func TestValid(t *testing.T) {
	for _, x := range []struct {
		p    api.Packet
		want bool
	}{
		{api.Packet{Src: four1, Dst: four2, Proto: 255, TTL: 255, Data: make([]byte, 1480)}, true}, {api.Packet{Src: four1, Dst: four2, Data: make([]byte, 1481)}, false},
		{api.Packet{Src: six1, Dst: six2, Data: make([]byte, 1460)}, true}, {api.Packet{Src: six1, Dst: six2, Data: make([]byte, 1461)}, false},
		{api.Packet{Src: four1, Dst: six2}, false}, {api.Packet{Src: api.Addr{Hi: 1}, Dst: four1}, false}, {api.Packet{Src: four1, Dst: api.Addr{Hi: 1}}, false},
		{api.Packet{Proto: -1}, false}, {api.Packet{Proto: 256}, false}, {api.Packet{TTL: -1}, false}, {api.Packet{TTL: 256}, false},
	} {
		b, e := Encode(x.p)
		if Valid(x.p) != x.want || (e == api.OK) != x.want || !x.want && (e != api.ErrArg || len(b) > 0) {
			t.Error("Valid or Encode", x.p.Src, len(x.p.Data), e)
		}
		if x.want {
			if q, e := Decode(append(b, 1, 2)); e != api.OK || q.Src != x.p.Src || q.Dst != x.p.Dst || q.TTL != x.p.TTL || q.Proto != x.p.Proto || !bytes.Equal(q.Data, x.p.Data) {
				t.Error("Decode of Encode", e)
			}
		}
	}
}

func TestEncode(t *testing.T) {
	p := api.Packet{Src: four1, Dst: four2, Proto: 17, TTL: 64, Data: []byte{1, 2}}
	b, _ := Encode(p)
	want := []byte{0x45, 0, 0, 22, 0, 0, 0x40, 0, 64, 17, 0, 0, 192, 0, 2, 1, 192, 0, 2, 2, 1, 2}
	sum := Sum(want[:20])
	want[10], want[11] = byte(sum>>8), byte(sum)
	if !bytes.Equal(b, want) {
		t.Errorf("Encode %x", b)
	}
	p = api.Packet{Src: six1, Dst: six2, Proto: 17, TTL: 64, Data: []byte{1, 2}}
	b, _ = Encode(p)
	if len(b) != 42 || !bytes.Equal(b[:8], []byte{0x60, 0, 0, 0, 0, 2, 17, 64}) || b[23] != 1 || b[39] != 2 || b[41] != 2 {
		t.Errorf("Encode %x", b)
	}
}

// fix writes the right check sum into a header.
func fix(b []byte) []byte {
	n := 4 * int(b[0]&15)
	b[10], b[11] = 0, 0
	s := Sum(b[:n])
	b[10], b[11] = byte(s>>8), byte(s)
	return b
}

func TestDecode4(t *testing.T) {
	b, _ := Encode(api.Packet{Src: four1, Dst: four2, Proto: 17, TTL: 64, Data: []byte{1, 2}})
	change := func(f func(c []byte) []byte) []byte { return f(bytes.Clone(b)) }
	for name, x := range map[string]struct {
		b    []byte
		want api.Errno
	}{
		"empty":            {nil, api.ErrShort},
		"version 5":        {change(func(c []byte) []byte { c[0] = 0x55; return c }), api.ErrForm},
		"19 bytes":         {b[:19], api.ErrShort},
		"header of 16":     {change(func(c []byte) []byte { c[0] = 0x44; return fix(c) }), api.ErrForm},
		"less than header": {change(func(c []byte) []byte { c[3] = 19; return fix(c) }), api.ErrForm},
		"one byte too few": {b[:21], api.ErrShort},
		"sum":              {change(func(c []byte) []byte { c[8]--; return c }), api.ErrSum},
		"sum and fragment": {change(func(c []byte) []byte { c[7] = 1; return c }), api.ErrSum},
		"offset":           {change(func(c []byte) []byte { c[7] = 1; return fix(c) }), api.ErrForm},
		"more fragments":   {change(func(c []byte) []byte { c[6] = 0x20; return fix(c) }), api.ErrForm},
		"reserved bit":     {change(func(c []byte) []byte { c[6] = 0x80; return fix(c) }), api.OK},
	} {
		p, e := Decode(x.b)
		if e != x.want || e != api.OK && !reflect.DeepEqual(p, api.Packet{}) {
			t.Error("Decode", name, e)
		}
	}
	c := append(bytes.Clone(b[:20]), 9, 9, 9, 9, 7)
	c[0], c[3] = 0x46, 25
	if p, e := Decode(fix(c)); e != api.OK || !bytes.Equal(p.Data, []byte{7}) {
		t.Error("Decode with options", p, e)
	}
	long := append(bytes.Clone(b[:20]), make([]byte, 1481)...)
	long[2], long[3] = 1501>>8, 1501&255
	if _, e := Decode(fix(long)); e != api.ErrLimit {
		t.Error("Decode of a long one", e)
	}
}

func TestDecode6(t *testing.T) {
	b, _ := Encode(api.Packet{Src: six1, Dst: six2, Data: []byte{1}})
	if _, e := Decode(b[:39]); e != api.ErrShort {
		t.Error("39 bytes", e)
	}
	if _, e := Decode(b[:40]); e != api.ErrShort {
		t.Error("40 bytes of 41", e)
	}
	long := append(bytes.Clone(b[:40]), make([]byte, 1461)...)
	long[4], long[5] = 1461>>8, 1461&255
	if p, e := Decode(long); e != api.ErrLimit || !reflect.DeepEqual(p, api.Packet{}) {
		t.Error("long", e)
	}
}

func TestHop(t *testing.T) {
	p := api.Packet{Src: four1, TTL: 2, Data: []byte{1}}
	q, ok := Hop(p)
	if !ok || q.TTL != 1 || q.Src != four1 || !bytes.Equal(q.Data, p.Data) {
		t.Error("Hop", q, ok)
	}
	for _, n := range []int{1, 0, -5} {
		p.TTL = n
		if q, ok := Hop(p); ok || !reflect.DeepEqual(p, q) {
			t.Error("Hop with", n, q, ok)
		}
	}
}
