package attribute

import (
	"bytes"
	"math/rand"
	"reflect"
	"slices"
	"testing"

	"exchangepoint/addr"
	"exchangepoint/api"
)

func at(s string) api.Addr {
	a, _ := addr.Parse(s)
	return a
}

func full() api.Attrs {
	return api.Attrs{
		Origin: 2, Path: []api.Segment{{ASNs: []int{65001, 1<<32 - 1}}, {Set: true, ASNs: []int{1, 2}}}, Next: at("192.0.2.1"), MED: 1<<32 - 1, Pref: 0, OTC: 7,
		Communities: []api.Community{{A: 1, B: 2}, {A: 65535, B: 666}}, Large: []api.Large{{A: 1, B: 2, C: 3}, {A: 1<<32 - 1}},
		Other: []api.Unknown{{Flags: 224, Type: 6, Data: []byte{9}}, {Flags: 224, Type: 255, Data: []byte{}}},
	}
}

func TestValid(t *testing.T) {
	if !Valid(full()) || !Valid(Empty()) || !reflect.DeepEqual(Empty(), api.Attrs{Origin: -1, MED: -1, Pref: -1, OTC: -1}) {
		t.Error("Valid or Empty")
	}
	other := func(l ...api.Unknown) func(a *api.Attrs) { return func(a *api.Attrs) { a.Other = l } }
	for name, change := range map[string]func(a *api.Attrs){
		"origin": func(a *api.Attrs) { a.Origin = 3 }, "origin -2": func(a *api.Attrs) { a.Origin = -2 }, "MED": func(a *api.Attrs) { a.MED = 1 << 32 }, "MED -2": func(a *api.Attrs) { a.MED = -2 },
		"pref": func(a *api.Attrs) { a.Pref = 1 << 32 }, "pref -2": func(a *api.Attrs) { a.Pref = -2 }, "OTC": func(a *api.Attrs) { a.OTC = 0 }, "OTC -2": func(a *api.Attrs) { a.OTC = -2 }, "OTC great": func(a *api.Attrs) { a.OTC = 1 << 32 },
		"path": func(a *api.Attrs) { a.Path = []api.Segment{{}} }, "next": func(a *api.Attrs) { a.Next = api.Addr{Hi: 1} }, "communities": func(a *api.Attrs) { a.Communities = []api.Community{{A: -1}} }, "large": func(a *api.Attrs) { a.Large = []api.Large{{A: -1}} },
		"flags": other(api.Unknown{Flags: 192, Type: 6}), "type 0": other(api.Unknown{Flags: 224}), "type 256": other(api.Unknown{Flags: 224, Type: 256}), "known": other(api.Unknown{Flags: 224, Type: 8}),
		"14": other(api.Unknown{Flags: 224, Type: 14}), "15": other(api.Unknown{Flags: 224, Type: 15}), "long": other(api.Unknown{Flags: 224, Type: 6, Data: make([]byte, 256)}), "order": other(api.Unknown{Flags: 224, Type: 7}, api.Unknown{Flags: 224, Type: 7}),
		"many": func(a *api.Attrs) {
			a.Other = nil
			for i := range 9 {
				a.Other = append(a.Other, api.Unknown{Flags: 224, Type: 100 + i})
			}
		},
	} {
		a := full()
		change(&a)
		if l, e := Write(a); Valid(a) || e != api.ErrArg || len(l) > 0 {
			t.Error("Valid or Write", name, e)
		}
	}
}

func TestSplitAndJoin(t *testing.T) {
	l := []api.Unknown{{Flags: 64, Type: 1, Data: []byte{0}}, {Flags: 224, Type: 200, Data: make([]byte, 256)}, {Flags: 0, Type: 0, Data: []byte{}}, {Flags: 128, Type: 4, Data: make([]byte, 255)}}
	b, e := Join(l)
	if e != api.OK || !bytes.HasPrefix(b, []byte{64, 1, 1, 0, 240, 200, 1, 0}) || len(b) != 4+4+256+3+3+255 || b[4+260+3] != 128 {
		t.Error("Join", b, e)
	}
	if m, e := Split(b); e != api.OK || !reflect.DeepEqual(l, m) {
		t.Error("Split of Join", m, e)
	}
	if b, e := Join([]api.Unknown{{Flags: 255, Type: 255}}); e != api.OK || !bytes.Equal(b, []byte{224, 255, 0}) {
		t.Error("Join leaves lower bits out", b, e)
	}
	if m, e := Split([]byte{0x7f, 9, 0, 1, 5}); e != api.OK || !reflect.DeepEqual(m, []api.Unknown{{Flags: 96, Type: 9, Data: []byte{5}}}) {
		t.Error("Split", m, e)
	}
	for _, b := range [][]byte{{64}, {64, 1}, {64, 1, 1}, {16, 1, 0}, {16, 1, 0, 1}, {64, 1, 0, 64, 1, 2, 3}} {
		if m, e := Split(b); e != api.ErrReset || len(m) > 0 {
			t.Error("Split", b, m, e)
		}
	}
	big := api.Unknown{Data: make([]byte, 2044)}
	if b, e := Join([]api.Unknown{big}); e != api.OK || len(b) != 2048 {
		t.Error("Join at the limit", e)
	}
	big.Data = make([]byte, 65535)
	for _, x := range []struct {
		l    []api.Unknown
		want api.Errno
	}{{[]api.Unknown{big}, api.ErrLimit}, {[]api.Unknown{big, {Flags: 256}}, api.ErrArg}, {[]api.Unknown{{Flags: -1}}, api.ErrArg}, {[]api.Unknown{{Type: -1}}, api.ErrArg}, {[]api.Unknown{{Type: 256}}, api.ErrArg}, {[]api.Unknown{{Data: make([]byte, 65536)}}, api.ErrArg}} {
		if b, e := Join(x.l); e != x.want || len(b) > 0 {
			t.Error("Join", e, x.want)
		}
	}
}

func TestWrite(t *testing.T) {
	a := Empty()
	if l, e := Write(a); e != api.OK || len(l) != 0 {
		t.Error("Write of nothing", l, e)
	}
	a.Origin, a.Path, a.Next = 0, []api.Segment{{ASNs: []int{65001}}}, at("192.0.2.1")
	l, _ := Write(a)
	b, _ := Join(l)
	if !bytes.Equal(b, []byte{0x40, 1, 1, 0, 0x40, 2, 6, 2, 1, 0, 0, 0xfd, 0xe9, 0x40, 3, 4, 192, 0, 2, 1}) {
		t.Errorf("Write %x", b)
	}
	l, e := Write(full())
	if e != api.OK {
		t.Fatal(e)
	}
	want := []api.Unknown{
		{Flags: 64, Type: 1, Data: []byte{2}}, {Flags: 64, Type: 2, Data: []byte{2, 2, 0, 0, 0xfd, 0xe9, 255, 255, 255, 255, 1, 2, 0, 0, 0, 1, 0, 0, 0, 2}}, {Flags: 64, Type: 3, Data: []byte{192, 0, 2, 1}},
		{Flags: 128, Type: 4, Data: []byte{255, 255, 255, 255}}, {Flags: 64, Type: 5, Data: []byte{0, 0, 0, 0}}, {Flags: 224, Type: 6, Data: []byte{9}}, {Flags: 192, Type: 8, Data: []byte{0, 1, 0, 2, 255, 255, 2, 154}},
		{Flags: 192, Type: 32, Data: []byte{0, 0, 0, 1, 0, 0, 0, 2, 0, 0, 0, 3, 255, 255, 255, 255, 0, 0, 0, 0, 0, 0, 0, 0}}, {Flags: 192, Type: 35, Data: []byte{0, 0, 0, 7}}, {Flags: 224, Type: 255, Data: []byte{}},
	}
	if !slices.EqualFunc(l, want, func(a, b api.Unknown) bool {
		return a.Flags == b.Flags && a.Type == b.Type && bytes.Equal(a.Data, b.Data)
	}) {
		t.Error("Write", l)
	}
	a = Empty()
	a.Path, a.Next = []api.Segment{{ASNs: []int{1}}}, at("::1")
	if l, _ := Write(a); len(l) != 1 || l[0].Type != 2 {
		t.Error("Write of a path alone", l)
	}
	a = Empty()
	a.Origin = 1
	if l, _ := Write(a); len(l) != 2 || len(l[1].Data) != 0 {
		t.Error("Write of an empty path", l)
	}
}

func un(flags, kind int, data ...byte) api.Unknown {
	return api.Unknown{Flags: flags, Type: kind, Data: data}
}

func TestReadBack(t *testing.T) {
	l, _ := Write(full())
	b, _ := Join(l)
	m, _ := Split(b)
	if a, e := Read(m); e != api.OK || !reflect.DeepEqual(a, full()) {
		t.Error("Read of Split of Join of Write", a, e)
	}
	if a, e := Read(nil); e != api.OK || !reflect.DeepEqual(a, Empty()) {
		t.Error("Read of nothing", a, e)
	}
}

func TestReadErrors(t *testing.T) {
	many := []api.Unknown{un(192, 0), un(128, 200)}
	for i := range 9 {
		many = append(many, un(192, 100+i))
	}
	set := append([]byte{1, 255}, bytes.Repeat([]byte{0, 0, 0, 1}, 255)...)
	long := append([]byte{2, 65}, bytes.Repeat([]byte{0, 0, 0, 1}, 65)...)
	for name, x := range map[string]struct {
		l    []api.Unknown
		want api.Errno
	}{
		"unknown, not optional": {[]api.Unknown{un(128, 1), un(64, 200)}, api.ErrReset}, "type 0, not optional": {[]api.Unknown{un(64, 0)}, api.ErrReset}, "dropped first": {[]api.Unknown{un(192, 200), un(64, 200)}, api.OK},
		"origin 3": {[]api.Unknown{un(64, 1, 3)}, api.ErrWithdraw}, "long origin": {[]api.Unknown{un(64, 1, 0, 0)}, api.ErrWithdraw}, "no origin": {[]api.Unknown{un(64, 1)}, api.ErrWithdraw},
		"first origin counts": {[]api.Unknown{un(64, 1, 0), un(64, 1, 9)}, api.OK}, "optional": {[]api.Unknown{un(192, 1, 0)}, api.ErrWithdraw}, "not transitive": {[]api.Unknown{un(0, 1, 0)}, api.ErrWithdraw}, "partial": {[]api.Unknown{un(96, 1, 0)}, api.ErrWithdraw}, "lower bits": {[]api.Unknown{un(95, 1, 0)}, api.OK},
		"partial MED": {[]api.Unknown{un(160, 4, 0, 0, 0, 0)}, api.ErrWithdraw}, "MED": {[]api.Unknown{un(128, 4, 0, 0, 0, 0)}, api.OK}, "transitive MED": {[]api.Unknown{un(192, 4, 0, 0, 0, 0)}, api.ErrWithdraw}, "short MED": {[]api.Unknown{un(128, 4, 0, 0, 0)}, api.ErrWithdraw},
		"partial communities": {[]api.Unknown{un(224, 8, 0, 0, 0, 0)}, api.OK}, "no communities": {[]api.Unknown{un(192, 8)}, api.ErrWithdraw}, "odd communities": {[]api.Unknown{un(192, 8, 0, 0, 0, 0, 0)}, api.ErrWithdraw},
		"64 communities": {[]api.Unknown{un(192, 8, make([]byte, 256)...)}, api.OK}, "65 communities": {[]api.Unknown{un(192, 8, make([]byte, 260)...)}, api.ErrWithdraw},
		"no large": {[]api.Unknown{un(192, 32)}, api.ErrWithdraw}, "odd large": {[]api.Unknown{un(192, 32, make([]byte, 16)...)}, api.ErrWithdraw}, "64 large": {[]api.Unknown{un(192, 32, make([]byte, 768)...)}, api.OK}, "65 large": {[]api.Unknown{un(192, 32, make([]byte, 780)...)}, api.ErrWithdraw},
		"next": {[]api.Unknown{un(64, 3, 1, 2, 3)}, api.ErrWithdraw}, "pref": {[]api.Unknown{un(64, 5, 1, 2, 3, 4, 5)}, api.ErrWithdraw}, "OTC 0": {[]api.Unknown{un(192, 35, 0, 0, 0, 0)}, api.ErrWithdraw}, "OTC": {[]api.Unknown{un(224, 35, 0, 0, 0, 1)}, api.OK},
		"empty path": {[]api.Unknown{un(64, 2)}, api.OK}, "segment 3": {[]api.Unknown{un(64, 2, 3, 1, 0, 0, 0, 1)}, api.ErrWithdraw}, "segment of none": {[]api.Unknown{un(64, 2, 2, 0)}, api.ErrWithdraw}, "segment cut off": {[]api.Unknown{un(64, 2, 2, 1, 0, 0, 0)}, api.ErrWithdraw}, "one byte": {[]api.Unknown{un(64, 2, 2)}, api.ErrWithdraw},
		"AS 0": {[]api.Unknown{un(64, 2, 2, 1, 0, 0, 0, 0)}, api.ErrWithdraw}, "repetitions in a set": {[]api.Unknown{un(64, 2, set...)}, api.OK}, "65 numbers": {[]api.Unknown{un(64, 2, long...)}, api.ErrWithdraw},
		"14 and 15": {[]api.Unknown{un(0, 14, 1), un(0, 15, 2)}, api.OK}, "nine others": {many, api.ErrLimit}, "eight others": {many[:len(many)-1], api.OK}, "withdraw ahead of limit": {append(slices.Clone(many), un(64, 1)), api.ErrWithdraw}, "long other": {append(slices.Clone(many[:len(many)-1]), un(192, 220, make([]byte, 256)...)), api.OK},
	} {
		a, e := Read(x.l)
		if e != x.want || e != api.OK && !reflect.DeepEqual(a, api.Attrs{}) || e == api.OK && !Valid(a) {
			t.Error("Read", name, e, x.want)
		}
	}
}

func TestReadChanges(t *testing.T) {
	a, e := Read([]api.Unknown{
		un(192, 200, 1), un(128, 199, 1), un(240, 7, 2), un(64, 2, 2, 1, 0, 0, 0, 5, 2, 1, 0, 0, 0, 4, 1, 3, 0, 0, 0, 2, 0, 0, 0, 1, 0, 0, 0, 2),
		un(192, 8, 0, 2, 0, 1, 0, 1, 0, 9, 0, 2, 0, 1), un(192, 32, 0, 0, 0, 2, 0, 0, 0, 0, 0, 0, 0, 0, 0, 0, 0, 1, 0, 0, 0, 0, 0, 0, 0, 7),
	})
	want := Empty()
	want.Path = []api.Segment{{ASNs: []int{5, 4}}, {Set: true, ASNs: []int{1, 2}}}
	want.Communities = []api.Community{{A: 1, B: 9}, {A: 2, B: 1}}
	want.Large = []api.Large{{A: 1, C: 7}, {A: 2}}
	want.Other = []api.Unknown{un(224, 7, 2), un(224, 200, 1)}
	if e != api.OK || !reflect.DeepEqual(a, want) {
		t.Error("Read", a, e)
	}
}

// Whatever bytes arrive, the result is valid or one of the errors.
func TestReadAnything(t *testing.T) {
	r := rand.New(rand.NewSource(1))
	l, _ := Write(full())
	good, _ := Join(l)
	for range 20000 {
		b := bytes.Clone(good)
		for range 1 + r.Intn(4) {
			b[r.Intn(len(b))] = byte(r.Intn(256))
		}
		m, e := Split(b)
		if e == api.ErrReset {
			continue
		}
		a, e := Read(m)
		if e == api.OK && !Valid(a) || e != api.OK && e != api.ErrReset && e != api.ErrWithdraw && e != api.ErrLimit {
			t.Fatal("Read", b, a, e)
		}
	}
}
