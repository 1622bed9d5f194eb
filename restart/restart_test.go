package restart

import (
	"reflect"
	"testing"

	"exchangepoint/api"
	"exchangepoint/attribute"
	"exchangepoint/prefix"
	"exchangepoint/ribin"
	"exchangepoint/update"
)

func session(state, mine, theirs int) api.Session {
	return api.Session{State: state, Mine: api.Open{Grace: mine}, Theirs: api.Open{Grace: theirs}}
}

func TestKeeps(t *testing.T) {
	for _, x := range [][3]int{{60, 30, 30}, {30, 60, 30}, {0, 60, 0}, {60, 0, 0}} {
		if n := Keeps(session(3, x[0], x[1])); n != x[2] {
			t.Error("Keeps", x, n)
		}
	}
}

func announce(l ...string) api.Update {
	a := attribute.Empty()
	a.Origin, a.Path, a.Next = 0, []api.Segment{{ASNs: []int{100}}}, api.Addr{Lo: 1}
	u := api.Update{Attrs: a}
	for _, s := range l {
		p, _ := prefix.Parse(s)
		if p.Addr.V6 {
			u.Attrs.Next = api.Addr{V6: true, Lo: 1}
		}
		u.Announce = append(u.Announce, p)
	}
	return u
}

func message(u api.Update) api.Message {
	b, e := update.Encode(u)
	if e != api.OK {
		panic(e)
	}
	return api.Message{Type: api.MsgUpdate, Body: b}
}

var (
	end4 = api.Message{Type: api.MsgUpdate, Body: []byte{0, 0, 0, 0}}
	end6 = api.Message{Type: api.MsgUpdate, Body: []byte{0, 0, 0, 6, 0x80, 15, 3, 0, 2, 1}}
)

func TestRecords(t *testing.T) {
	up, idle, confirm := session(3, 60, 30), session(0, 60, 0), session(2, 60, 30)
	u := announce("10.0.0.0/8")
	broken := message(u)
	broken.Body = append([]byte{}, broken.Body...)
	broken.Body[7] = 9 // the origin
	gone := api.Update{Withdraw: u.Announce, Attrs: attribute.Empty()}
	one := func(r api.Record) []api.Record {
		r.Member = 100
		return []api.Record{r}
	}
	for name, x := range map[string]struct {
		before, after api.Session
		m             api.Message
		want          []api.Record
	}{
		"up": {confirm, up, api.Message{Type: api.MsgKeepalive}, one(api.Record{Kind: api.LogUp})}, "time": {up, idle, api.Message{}, one(api.Record{Kind: api.LogDown, Tick: 7, Grace: 30})}, "notification": {up, idle, api.Message{Type: api.MsgNotification}, one(api.Record{Kind: api.LogDown, Tick: 7})}, "another message": {up, idle, api.Message{Type: api.MsgOpen}, one(api.Record{Kind: api.LogDown, Tick: 7, Grace: 30})},
		"update": {up, up, message(u), one(api.Record{Kind: api.LogUpdate, Update: u})}, "end": {up, up, end4, one(api.Record{Kind: api.LogSweep})}, "end of V6": {up, up, end6, one(api.Record{Kind: api.LogSweep, Grace: 1})}, "withdraw": {up, up, broken, one(api.Record{Kind: api.LogUpdate, Update: gone})}, "reset": {up, up, api.Message{Type: api.MsgUpdate, Body: []byte{1}}, one(api.Record{Kind: api.LogDown, Tick: 7})},
		"keepalive": {up, up, api.Message{Type: api.MsgKeepalive}, nil}, "nothing": {up, up, api.Message{}, nil}, "refresh": {up, up, api.Message{Type: api.MsgRefresh}, nil}, "idle": {idle, idle, message(u), nil}, "not up": {confirm, idle, api.Message{Type: api.MsgNotification}, nil},
	} {
		if got := Records(x.before, x.after, x.m, 100, 7); !reflect.DeepEqual(got, x.want) {
			t.Error("Records", name, got)
		}
	}
}

func TestDue(t *testing.T) {
	for _, x := range []struct {
		until, now int
		want       bool
	}{{0, 5, false}, {5, 4, false}, {5, 5, true}, {5, 6, true}} {
		if Due(api.RIB{Until: x.until}, x.now) != x.want {
			t.Error("Due", x)
		}
	}
}

// After a restart in which everything is sent again, what is held is as before; the rest is gone.
func TestRestart(t *testing.T) {
	f := api.Filter{Own: 1, Max4: 24, Max6: 48, Hops: 9}
	start, _ := ribin.Raise(ribin.New(api.Peer{ASN: 100, Max4: 9, Max6: 9, Nexts: []api.Addr{{Lo: 1}}}))
	play := func(b api.RIB, l ...api.Message) api.RIB {
		up := session(3, 60, 30)
		for _, m := range l {
			for _, r := range Records(up, up, m, 100, 20) {
				e := api.OK
				if r.Kind == api.LogSweep {
					b = ribin.Sweep(b, r.Grace)
				} else {
					b, e = ribin.Apply(f, b, r.Update)
				}
				if e != api.OK {
					t.Fatal(e)
				}
			}
		}
		return b
	}
	four, more, six := message(announce("10.0.0.0/8")), message(announce("11.0.0.0/8")), message(announce("1::/16"))
	full := play(start, four, more, six)
	down, _ := ribin.Down(full, 10, 30)
	again, _ := ribin.Raise(down)
	if got := play(again, six, more, four, end4, end6); !reflect.DeepEqual(got, full) {
		t.Error("everything again", got)
	}
	if got := play(again, four, six, end4, end6); !reflect.DeepEqual(got, play(start, four, six)) {
		t.Error("not everything again", got)
	}
	if got := play(again, end6); len(got.Held) != 2 || !Due(got, 40) || Due(got, 39) {
		t.Error("one mark", got)
	}
}
