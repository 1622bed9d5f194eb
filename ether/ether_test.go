package ether

import (
	"bytes"
	"reflect"
	"testing"

	"exchangepoint/api"
)

func TestTexts(t *testing.T) {
	m := api.MAC{0, 0x1a, 0xff, 9, 0xa0, 1}
	if Print(m) != "00:1a:ff:09:a0:01" {
		t.Error("Print", Print(m))
	}
	if n, e := Parse("00:1a:ff:09:a0:01"); e != api.OK || n != m {
		t.Error("Parse", n, e)
	}
	for _, s := range []string{"", "00:1A:ff:09:a0:01", "00:1a:ff:09:a0", "00:1a:ff:09:a0:01:", "00-1a-ff-09-a0-01", "0:1a:ff:09:a0:001", "00:1a:ff:09:a0:0g", ":00:1a:ff:09:a0:0", "00:1a:ff:09:a0:0\x00"} {
		if n, e := Parse(s); e != api.ErrSyntax || n != (api.MAC{}) {
			t.Error("Parse", s, n, e)
		}
	}
}

func TestGroups(t *testing.T) {
	if Print(Broadcast()) != "ff:ff:ff:ff:ff:ff" || !Group(Broadcast()) || !Group(api.MAC{1}) || Group(api.MAC{2, 1, 1, 1, 1, 1}) {
		t.Error("Broadcast or Group")
	}
	for s, want := range map[string]bool{"01:80:c2:00:00:00": true, "01:80:c2:00:00:02": true, "01:80:c2:00:00:0f": true, "01:80:c2:00:00:10": false, "01:80:c2:00:01:00": false, "01:80:c3:00:00:00": false} {
		if m, _ := Parse(s); Reserved(m) != want {
			t.Error("Reserved", s)
		}
	}
	if Print(Solicited(api.Addr{V6: true, Hi: 0x20010db8 << 32, Lo: 0xff123456})) != "33:33:ff:12:34:56" || Solicited(api.Addr{Lo: 1}) != (api.MAC{}) {
		t.Error("Solicited")
	}
}

func TestEncode(t *testing.T) {
	f := api.Frame{Dst: api.MAC{1, 2, 3, 4, 5, 6}, Src: api.MAC{7, 8, 9, 10, 11, 12}, Type: 0x0800, Data: []byte{42}}
	want := []byte{1, 2, 3, 4, 5, 6, 7, 8, 9, 10, 11, 12, 8, 0, 42}
	if b, e := Encode(f); e != api.OK || !bytes.Equal(b, want) {
		t.Error("Encode", b, e)
	}
	if g, e := Decode(want); e != api.OK || !reflect.DeepEqual(f, g) {
		t.Error("Decode", g, e)
	}
	f.VLAN = 0x123
	want = []byte{1, 2, 3, 4, 5, 6, 7, 8, 9, 10, 11, 12, 0x81, 0, 1, 0x23, 8, 0, 42}
	if b, e := Encode(f); e != api.OK || !bytes.Equal(b, want) {
		t.Error("Encode with a tag", b, e)
	}
	want[14] |= 0xf0
	if g, e := Decode(want); e != api.OK || !reflect.DeepEqual(f, g) {
		t.Error("Decode with a tag", g, e)
	}
	for _, x := range []struct {
		f    api.Frame
		want bool
	}{
		{api.Frame{Type: 1536}, true}, {api.Frame{Type: 65535, VLAN: 4094, Data: make([]byte, 1500)}, true}, {api.Frame{Type: 1535}, false}, {api.Frame{Type: 65536}, false},
		{api.Frame{Type: api.TypeTag}, false}, {api.Frame{Type: 1536, VLAN: 4095}, false}, {api.Frame{Type: 1536, VLAN: -1}, false}, {api.Frame{Type: 1536, Data: make([]byte, 1501)}, false},
	} {
		b, e := Encode(x.f)
		if Valid(x.f) != x.want || (e == api.OK) != x.want || !x.want && (e != api.ErrArg || len(b) > 0) {
			t.Error("Valid or Encode", x.f.Type, x.f.VLAN, len(x.f.Data), e)
		}
	}
}

func TestDecodeErrors(t *testing.T) {
	head := make([]byte, 12)
	for _, x := range []struct {
		tail []byte
		want api.Errno
	}{
		{[]byte{8}, api.ErrShort}, {[]byte{8, 0}, api.OK}, {[]byte{0x81, 0, 0, 1, 8}, api.ErrShort}, {[]byte{0x81, 0, 0, 1, 8, 0}, api.OK}, {[]byte{0x81, 0, 0xf0, 0, 8, 0}, api.ErrForm},
		{[]byte{0x81, 0, 0x0f, 0xff, 8, 0}, api.ErrForm}, {[]byte{0x81, 0, 0, 1, 0x81, 0}, api.ErrForm}, {[]byte{5, 255}, api.ErrForm}, {[]byte{6, 0}, api.OK},
		{append([]byte{8, 0}, make([]byte, 1500)...), api.OK}, {append([]byte{8, 0}, make([]byte, 1501)...), api.ErrLimit}, {append([]byte{5, 0}, make([]byte, 1501)...), api.ErrForm},
	} {
		f, e := Decode(append(bytes.Clone(head), x.tail...))
		if e != x.want || e != api.OK && !reflect.DeepEqual(f, api.Frame{}) {
			t.Error("Decode", len(x.tail), e, x.want)
		}
	}
}
