package neighbor

import (
	"reflect"
	"testing"

	"exchangepoint/addr"
	"exchangepoint/api"
	"exchangepoint/packet"
)

func at(s string) api.Addr {
	a, e := addr.Parse(s)
	if e != api.OK {
		panic(s)
	}
	return a
}

var (
	src  = at("fe80::2")
	dst  = at("ff02::1:ff00:1")
	goal = at("fe80::1")
	mac  = api.MAC{2, 3, 4, 5, 6, 7}
)

func TestEncode(t *testing.T) {
	for _, x := range []struct {
		n      api.Neighbor
		size   int
		number byte
	}{
		{api.Neighbor{Kind: 133}, 8, 1}, {api.Neighbor{Kind: 134}, 16, 1}, {api.Neighbor{Kind: 135, Target: goal}, 24, 1},
		{api.Neighbor{Kind: 136, Target: goal, Flags: 5}, 24, 2}, {api.Neighbor{Kind: 137, Target: goal}, 40, 2},
	} {
		p, e := Encode(x.n, src, dst)
		if e != api.OK || !Valid(x.n) || len(p.Data) != x.size || p.TTL != 255 || p.Proto != 58 || p.Src != src || p.Dst != dst || packet.Check(src, dst, 58, p.Data) != 0 {
			t.Error("Encode", x.n, p, e)
		}
		if p.Data[4] != byte(x.n.Flags*32) {
			t.Error("flags", p.Data)
		}
		if n, e := Decode(p); e != api.OK || n != x.n {
			t.Error("Decode of Encode", n, e)
		}
		x.n.HasLink, x.n.Link = true, mac
		p, e = Encode(x.n, src, dst)
		if e != api.OK || len(p.Data) != x.size+8 || p.Data[x.size] != x.number || p.Data[x.size+1] != 1 || api.MAC(p.Data[x.size+2:]) != mac {
			t.Error("Encode with a link address", p, e)
		}
		if n, e := Decode(p); e != api.OK || n != x.n {
			t.Error("Decode of Encode with a link address", n, e)
		}
	}
}

func TestInvalid(t *testing.T) {
	for _, n := range []api.Neighbor{{Kind: 132}, {Kind: 138}, {Kind: 133, Target: goal}, {Kind: 135}, {Kind: 135, Target: dst}, {Kind: 135, Target: at("1.2.3.4")}, {Kind: 136, Target: goal, Flags: 8}, {Kind: 136, Target: goal, Flags: -1}, {Kind: 135, Target: goal, Flags: 1}, {Kind: 133, Link: mac}} {
		if p, e := Encode(n, src, dst); Valid(n) || e != api.ErrArg || !reflect.DeepEqual(p, api.Packet{}) {
			t.Error("Encode of", n, e)
		}
	}
	ok := api.Neighbor{Kind: 133}
	for _, x := range [][2]api.Addr{{at("1.2.3.4"), dst}, {src, at("1.2.3.4")}} {
		if _, e := Encode(ok, x[0], x[1]); e != api.ErrArg {
			t.Error("Encode without V6", e)
		}
	}
}

// send returns a packet with data whose check sum is right.
func send(from api.Addr, data ...byte) api.Packet {
	data = append([]byte{}, data...)
	p := api.Packet{Src: from, Dst: dst, Proto: 58, TTL: 255, Data: data}
	data[2], data[3] = 0, 0
	s := packet.Check(from, dst, 58, data)
	data[2], data[3] = byte(s>>8), byte(s)
	return p
}

func message(kind byte, target api.Addr, options ...byte) []byte {
	return append(append([]byte{kind, 0, 0, 0, 0xff, 0xff, 0xff, 0xff}, addr.Bytes(target)...), options...)
}

func TestDecode(t *testing.T) {
	good := message(135, goal, 1, 1, 2, 3, 4, 5, 6, 7)
	change := func(f func(p *api.Packet)) api.Packet {
		p := send(src, good...)
		f(&p)
		return p
	}
	for name, x := range map[string]struct {
		p    api.Packet
		want api.Errno
	}{
		"good":             {send(src, good...), api.OK},
		"no packet":        {change(func(p *api.Packet) { p.TTL = 256 }), api.ErrArg},
		"another protocol": {change(func(p *api.Packet) { p.Proto = 17; p.TTL = 3 }), api.ErrForm},
		"without V6":       {api.Packet{Proto: 58, TTL: 255}, api.ErrForm},
		"forwarded":        {change(func(p *api.Packet) { p.TTL = 254; p.Data = nil }), api.ErrHop},
		"3 bytes":          {api.Packet{Src: src, Dst: dst, Proto: 58, TTL: 255, Data: []byte{135, 0, 0}}, api.ErrShort},
		"sum":              {change(func(p *api.Packet) { p.Data[0] = 1 }), api.ErrSum},
		"kind 132":         {send(src, message(132, goal)...), api.ErrForm},
		"kind 138":         {send(src, message(138, goal)...), api.ErrForm},
		"code 1":           {send(src, 135, 1, 0, 0), api.ErrForm},
		"fixed 133":        {send(src, 133, 0, 0, 0, 1, 2, 3), api.ErrShort},
		"fixed 134":        {send(src, 134, 0, 0, 0, 1, 2, 3, 4, 5, 6, 7, 8, 9, 10, 11), api.ErrShort},
		"fixed 135":        {send(src, good[:23]...), api.ErrShort},
		"fixed 137":        {send(src, message(137, goal)...), api.ErrShort},
		"group":            {send(src, message(135, dst)...), api.ErrForm},
		"option of 1 byte": {send(src, message(135, goal, 1)...), api.ErrForm},
		"option of 0":      {send(src, message(135, goal, 5, 0, 0, 0, 0, 0, 0, 0)...), api.ErrForm},
		"long option":      {send(src, message(135, goal, 5, 2, 0, 0, 0, 0, 0, 0)...), api.ErrForm},
		"nobody's link":    {send(at("::"), good...), api.ErrForm},
		"nobody":           {send(at("::"), message(135, goal)...), api.OK},
		"nobody's advert":  {send(at("::"), message(136, goal, 2, 1, 2, 3, 4, 5, 6, 7)...), api.OK},
	} {
		n, e := Decode(x.p)
		if e != x.want || e != api.OK && n != (api.Neighbor{}) {
			t.Error("Decode", name, n, e)
		}
	}
	if n, _ := Decode(send(src, good...)); n != (api.Neighbor{Kind: 135, Target: goal, HasLink: true, Link: mac}) {
		t.Error("Decode", n)
	}
	first := message(136, goal, 1, 1, 9, 9, 9, 9, 9, 9, 2, 2, 1, 1, 1, 1, 1, 1, 0, 0, 0, 0, 0, 0, 0, 0, 2, 1, 2, 3, 4, 5, 6, 7, 2, 1, 8, 8, 8, 8, 8, 8)
	if n, e := Decode(send(src, first...)); e != api.OK || n != (api.Neighbor{Kind: 136, Flags: 7, Target: goal, HasLink: true, Link: mac}) {
		t.Error("Decode takes the first option of the number and the length", n, e)
	}
	redirect := append(message(137, goal), addr.Bytes(dst)...)
	if n, e := Decode(send(src, redirect...)); e != api.OK || n != (api.Neighbor{Kind: 137, Target: goal}) {
		t.Error("Decode of a redirect", n, e)
	}
}
