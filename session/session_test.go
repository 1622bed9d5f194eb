package session

import (
	"bytes"
	"encoding/hex"
	"math/rand"
	"reflect"
	"strings"
	"testing"

	"exchangepoint/api"
)

func raw(s string) []byte {
	b, err := hex.DecodeString(strings.ReplaceAll(s, " ", ""))
	if err != nil {
		panic(s)
	}
	return b
}

func TestOpen(t *testing.T) {
	for want, o := range map[string]api.Open{
		"04 5ba0 0009 00000001 08 02 06 41 04 0001000f":                     {ASN: 65551, ID: 1, Hold: 9, Role: -1},
		"04 ffff 0000 ffffffff 0f 02 0d 09 01 04 40 02 8fff 41 04 0000ffff": {ASN: 65535, ID: 1<<32 - 1, Role: 4, Grace: 4095, Again: true},
		"04 0001 ffff 00000007 0c 02 0a 40 02 8000 41 04 00000001":          {ASN: 1, ID: 7, Hold: 65535, Role: -1, Again: true},
		"04 0001 0003 00000007 0f 02 0d 09 01 00 40 02 0001 41 04 00000001": {ASN: 1, ID: 7, Hold: 3, Grace: 1},
		"04 5ba0 0003 00000007 0b 02 09 09 01 02 41 04 ffffffff":            {ASN: 1<<32 - 1, ID: 7, Hold: 3, Role: 2},
		as23456: {ASN: 23456, ID: 7, Hold: 3, Role: 2},
	} {
		b, e := Encode(o)
		if e != api.OK || !Valid(o) || !bytes.Equal(b, raw(want)) {
			t.Errorf("Encode %x %v, not %s", b, e, want)
		}
		if got, e := Decode(b); e != api.OK || got != o {
			t.Error("Decode of Encode", got, e)
		}
	}
	for _, o := range []api.Open{{}, {ASN: 0, ID: 1}, {ASN: 1 << 32, ID: 1}, {ASN: 1}, {ASN: 1, ID: 1 << 32}, {ASN: 1, ID: 1, Hold: 2}, {ASN: 1, ID: 1, Hold: -1}, {ASN: 1, ID: 1, Hold: 65536}, {ASN: 1, ID: 1, Role: -2}, {ASN: 1, ID: 1, Role: 5}, {ASN: 1, ID: 1, Grace: -1}, {ASN: 1, ID: 1, Grace: 4096}} {
		if b, e := Encode(o); Valid(o) || e != api.ErrArg || len(b) > 0 {
			t.Error("Encode", o, e)
		}
	}
}

const as23456 = "04 5ba0 0003 00000007 0b 02 09 09 01 02 41 04 00005ba0"

func TestDecode(t *testing.T) {
	good := api.Open{ASN: 7, ID: 1, Hold: 9, Role: -1}
	for s, want := range map[string]api.Errno{
		"": api.ErrShort, "04 0007 0009 00000001": api.ErrShort, "03 0007 0009 00000001 05": api.ErrVersion, "04 0007 0009 00000001 01": api.ErrForm, "04 0007 0009 00000001 00 00": api.ErrForm, "04 0007 0009 00000001 01 02": api.ErrForm, "04 0007 0009 00000001 02 02 01": api.ErrForm, "04 0007 0009 00000001 02 01 00": api.ErrForm,
		"04 0007 0009 00000001 03 02 01 05": api.ErrForm, "04 0007 0009 00000001 04 02 02 05 01": api.ErrForm, "04 0007 0009 00000001 05 02 02 05 01 00": api.ErrForm, "04 0007 0009 00000001 04 02 02 09 00": api.ErrForm, "04 0007 0009 00000001 06 02 04 09 02 0101": api.ErrForm, "04 0007 0009 00000001 05 02 03 40 01 01": api.ErrForm, "04 0007 0009 00000001 06 02 04 41 02 0007": api.ErrForm,
		"04 0007 0009 00000001 0a 02 03 09 01 01 02 03 09 01 01": api.ErrForm, "04 0007 0009 00000001 08 02 06 41 04 00000008": api.ErrForm, "04 5ba0 0009 00000001 08 02 06 41 04 00000007": api.ErrForm, "04 0007 0009 00000001 08 02 06 41 04 00010007": api.ErrForm, "04 0008 0002 00000001 08 02 06 41 04 00000007": api.ErrForm,
		"04 0007 0002 00000001 00": api.ErrArg, "04 0000 0009 00000001 00": api.ErrArg, "04 0007 0009 00000000 00": api.ErrArg, "04 0007 0009 00000001 05 02 03 09 01 05": api.ErrArg,
	} {
		if o, e := Decode(raw(s)); e != want || o != (api.Open{}) {
			t.Error("Decode", s, o, e)
		}
	}
	for _, s := range []string{"04 0007 0009 00000001 00", "04 0007 0009 00000001 02 02 00", "04 0007 0009 00000001 06 02 00 02 02 05 00", "04 0007 0009 00000001 0c 02 02 01 00 02 06 41 04 00000007"} {
		if o, e := Decode(raw(s)); e != api.OK || o != good {
			t.Error("Decode", s, o, e)
		}
	}
	if o, e := Decode(raw("04 0007 0009 00000001 06 02 04 40 02 7005")); e != api.OK || o.Grace != 5 || o.Again {
		t.Error("Decode of other bits", o, e)
	}
}

func mine() api.Open { return api.Open{ASN: 64496, ID: 1, Hold: 90, Role: api.RoleServer, Grace: 60} }

func theirs() api.Open { return api.Open{ASN: 100, ID: 2, Hold: 30, Role: api.RoleClient, Grace: 30} }

func open(o api.Open) api.Message {
	b, e := Encode(o)
	if e != api.OK {
		panic(e)
	}
	return api.Message{Type: api.MsgOpen, Body: b}
}

func TestStart(t *testing.T) {
	s := api.Session{Mine: mine(), ASN: 100, Theirs: theirs(), Heard: 3}
	out, l, e := Start(s, 7)
	if e != api.OK || out != (api.Session{State: api.StateOpen, Mine: mine(), ASN: 100, Sent: 7, Heard: 7}) || !reflect.DeepEqual(l, []api.Message{open(mine())}) {
		t.Error("Start", out, l, e)
	}
	bad := s
	bad.Mine.ID = 0
	up := s
	up.State = api.StateUp
	for name, x := range map[string]struct {
		s    api.Session
		now  int
		want api.Errno
	}{"mine": {bad, 7, api.ErrArg}, "ASN": {api.Session{Mine: mine(), State: 3}, 7, api.ErrArg}, "ASN great": {api.Session{Mine: mine(), ASN: 1 << 32}, 7, api.ErrArg}, "now": {s, -1, api.ErrArg}, "now great": {s, api.MaxTick + 1, api.ErrArg}, "state": {up, 7, api.ErrState}, "limit": {s, api.MaxTick, api.OK}} {
		if out, l, e := Start(x.s, x.now); e != x.want || e != api.OK && (len(l) > 0 || out != api.Session{}) {
			t.Error("Start", name, e)
		}
	}
	if m := Notify(258); m.Type != api.MsgNotification || !bytes.Equal(m.Body, []byte{2, 0}) {
		t.Error("Notify", m)
	}
}

func TestHold(t *testing.T) {
	for _, x := range [][3]int{{0, 0, 0}, {0, 9, 9}, {9, 0, 9}, {9, 30, 9}, {30, 9, 9}} {
		if n := Hold(api.Session{Mine: api.Open{Hold: x[0]}, Theirs: api.Open{Hold: x[1]}}); n != x[2] {
			t.Error("Hold", x, n)
		}
	}
}

func in(state int) api.Session {
	s := api.Session{State: state, Mine: mine(), ASN: 100, Sent: 5, Heard: 6}
	if state > api.StateOpen {
		s.Theirs = theirs()
	}
	return s
}

func TestReceive(t *testing.T) {
	alive, full := api.Message{Type: api.MsgKeepalive}, api.Message{Type: api.MsgKeepalive, Body: []byte{1}}
	idle := api.Session{Mine: mine(), ASN: 100}
	note := func(code int) []api.Message { return []api.Message{Notify(code)} }
	heard := func(state, next int) api.Session {
		s := in(state)
		s.State, s.Heard = next, 9
		return s
	}
	confirm := heard(api.StateOpen, api.StateConfirm)
	confirm.Theirs, confirm.Sent = theirs(), 9
	other, peer, quiet := theirs(), theirs(), theirs()
	other.ASN, peer.Role, quiet.Role = 101, api.RolePeer, -1
	silent := confirm
	silent.Theirs = quiet
	for i, x := range []struct {
		s    api.Session
		m    api.Message
		want api.Session
		l    []api.Message
	}{
		{in(1), open(theirs()), confirm, []api.Message{alive}}, {in(1), open(quiet), silent, []api.Message{alive}}, {in(1), open(other), idle, note(api.NoteOpen)}, {in(1), open(peer), idle, note(api.NoteOpen)}, {in(1), api.Message{Type: api.MsgOpen, Body: []byte{4}}, idle, note(api.NoteForm)},
		{in(1), alive, idle, note(api.NoteState)}, {in(1), full, idle, note(api.NoteState)}, {in(1), api.Message{Type: api.MsgUpdate}, idle, note(api.NoteState)}, {in(1), api.Message{}, idle, note(api.NoteState)},
		{in(2), alive, heard(2, 3), nil}, {in(2), full, idle, note(api.NoteForm)}, {in(2), api.Message{Type: api.MsgUpdate}, idle, note(api.NoteState)}, {in(2), api.Message{Type: api.MsgRefresh}, idle, note(api.NoteState)}, {in(2), open(theirs()), idle, note(api.NoteState)},
		{in(3), alive, heard(3, 3), nil}, {in(3), api.Message{Type: api.MsgUpdate, Body: []byte{1}}, heard(3, 3), nil}, {in(3), api.Message{Type: api.MsgRefresh}, heard(3, 3), nil}, {in(3), full, idle, note(api.NoteForm)}, {in(3), open(theirs()), idle, note(api.NoteState)}, {in(3), api.Message{Type: 6}, idle, note(api.NoteState)},
		{in(1), Notify(6), idle, nil}, {in(2), Notify(6), idle, nil}, {in(3), Notify(6), idle, nil},
	} {
		out, l, e := Receive(x.s, x.m, 9)
		if e != api.OK || out != x.want || len(l) != len(x.l) || len(l) > 0 && !reflect.DeepEqual(l, x.l) {
			t.Error("Receive", i, out, l, e)
		}
	}
	for name, x := range map[string]struct {
		s    api.Session
		now  int
		want api.Errno
	}{"now": {in(0), -1, api.ErrArg}, "now great": {in(3), api.MaxTick + 1, api.ErrArg}, "state": {in(4), 0, api.ErrArg}, "state -1": {in(-1), 0, api.ErrArg}, "idle": {in(0), 0, api.ErrState}, "time": {in(3), 5, api.ErrTime}, "same time": {in(3), 6, api.OK}} {
		if out, l, e := Receive(x.s, alive, x.now); e != x.want || len(l) > 0 || e != api.OK && out != (api.Session{}) {
			t.Error("Receive", name, e)
		}
	}
}

func TestTick(t *testing.T) {
	alive := []api.Message{{Type: api.MsgKeepalive}}
	idle := api.Session{Mine: mine(), ASN: 100}
	sent := func(s api.Session, now int) api.Session {
		s.Sent = now
		return s
	}
	free := in(3)
	free.Mine.Hold, free.Theirs.Hold = 0, 0
	late := in(3)
	late.Heard = 30
	for i, x := range []struct {
		s    api.Session
		now  int
		want api.Session
		l    []api.Message
	}{
		{idle, 1000, idle, nil}, {in(1), 245, in(1), nil}, {in(1), 246, idle, []api.Message{Notify(api.NoteHold)}}, {free, 100000, free, nil}, {in(3), 5, in(3), nil}, {in(3), 14, in(3), nil}, {in(3), 15, sent(in(3), 15), alive}, {in(2), 15, sent(in(2), 15), alive},
		{in(3), 35, sent(in(3), 35), alive}, {in(3), 36, idle, []api.Message{Notify(api.NoteHold)}}, {in(2), 36, idle, []api.Message{Notify(api.NoteHold)}}, {late, 20, late, nil},
	} {
		out, l := Tick(x.s, x.now)
		if out != x.want || len(l) != len(x.l) || len(l) > 0 && !reflect.DeepEqual(l, x.l) {
			t.Error("Tick", i, out, l)
		}
	}
}

// Two sides with fitting roles are up after two messages of each, and stay up.
func TestTwoSides(t *testing.T) {
	r := rand.New(rand.NewSource(1))
	for range 50 {
		a, b := mine(), theirs()
		a.Hold, b.Hold = 3+r.Intn(30), 3+r.Intn(30)
		x, toY, _ := Start(api.Session{Mine: a, ASN: b.ASN}, 0)
		y, toX, _ := Start(api.Session{Mine: b, ASN: a.ASN}, 0)
		counts := [2]int{len(toY), len(toX)}
		deliver := func(now int) {
			for len(toX)+len(toY) > 0 {
				var l []api.Message
				if len(toX) > 0 {
					x, l, _ = Receive(x, toX[0], now)
					toX, toY = toX[1:], append(toY, l...)
					counts[0] += len(l)
				} else {
					y, l, _ = Receive(y, toY[0], now)
					toY, toX = toY[1:], append(toX, l...)
					counts[1] += len(l)
				}
			}
		}
		deliver(0)
		if x.State != api.StateUp || y.State != api.StateUp || counts != [2]int{2, 2} || Hold(x) != Hold(y) || Hold(x) != min(a.Hold, b.Hold) {
			t.Fatal("not up", x, y, counts)
		}
		for now := 1; now < 200; now++ {
			x, toY = Tick(x, now)
			y, toX = Tick(y, now)
			deliver(now)
			if x.State != api.StateUp || y.State != api.StateUp {
				t.Fatal("not up any more", now, x, y)
			}
		}
	}
}
