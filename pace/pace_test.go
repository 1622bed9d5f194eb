package pace

import (
	"math/rand"
	"reflect"
	"slices"
	"testing"

	"exchangepoint/api"
	"exchangepoint/attribute"
	"exchangepoint/delta"
	"exchangepoint/meter"
	"exchangepoint/pack"
	"exchangepoint/same"
)

// at returns the n-th of many prefixes.
func at(n int) api.Prefix {
	return api.Prefix{Addr: api.Addr{Lo: uint64(n)}, Len: 32}
}

func gone(n int) api.Change { return api.Change{Prefix: at(n)} }

func has(n, med int) api.Change {
	a := attribute.Empty()
	a.Origin, a.Path, a.Next, a.MED = 0, []api.Segment{{ASNs: []int{100}}}, api.Addr{Lo: 1}, med
	return api.Change{Prefix: at(n), Has: true, Route: api.Route{Prefix: at(n), From: 100, Attrs: a}}
}

func queue(rate, burst int, l ...api.Change) api.Queue {
	return api.Queue{Pending: l, Bucket: meter.New(rate, burst)}
}

func many(n int) []api.Change {
	var out []api.Change
	for i := range n {
		out = append(out, gone(i))
	}
	return out
}

func TestValid(t *testing.T) {
	wrong := has(1, 1)
	wrong.Prefix = at(2)
	next := has(1, 1)
	next.Route.Attrs.Next = api.Addr{}
	odd := gone(1)
	odd.Route.Prefix.Len = 99
	if !Valid(queue(0, 0)) || !Valid(queue(1, 2, has(2, 1), gone(1))) || !Valid(queue(1, 1, many(4096)...)) || !Valid(queue(1, 1, odd)) {
		t.Error("valid queues")
	}
	for name, q := range map[string]api.Queue{"bucket": queue(2, 1), "many": queue(1, 1, many(4097)...), "prefix": queue(1, 1, api.Change{Prefix: api.Prefix{Len: 40}}), "twice": queue(1, 1, gone(1), has(1, 1)), "route": queue(1, 1, wrong), "next": queue(1, 1, next)} {
		if Valid(q) {
			t.Error("Valid", name)
		}
		if got, e := Push(q, nil); e != api.ErrArg || !reflect.DeepEqual(got, api.Queue{}) {
			t.Error("Push", name, e)
		}
		if got, l, e := Send(q); e != api.ErrArg || len(l) > 0 || !reflect.DeepEqual(got, api.Queue{}) {
			t.Error("Send", name, e)
		}
	}
	for _, c := range []api.Change{wrong, next, {Prefix: api.Prefix{Len: 40}}} {
		if _, e := Push(queue(1, 1), []api.Change{gone(1), c}); e != api.ErrArg {
			t.Error("Push of an invalid change", e)
		}
	}
}

func TestPush(t *testing.T) {
	q, e := Push(queue(1, 1, has(5, 1), gone(3)), []api.Change{gone(4), gone(5), has(3, 2), has(4, 9), gone(1)})
	want := queue(1, 1, gone(5), has(3, 2), has(4, 9), gone(1))
	if e != api.OK || !reflect.DeepEqual(q, want) {
		t.Error("Push", q, e)
	}
	full := queue(1, 1, many(4096)...)
	if q, e := Push(full, []api.Change{has(7, 1)}); e != api.OK || !q.Pending[7].Has {
		t.Error("Push into a full queue", e)
	}
	if q, e := Push(full, []api.Change{gone(5000)}); e != api.ErrLimit || !reflect.DeepEqual(q, api.Queue{}) {
		t.Error("Push beyond the limit", e)
	}
	if _, e := Push(full, []api.Change{gone(5000), {Prefix: api.Prefix{Len: 40}}}); e != api.ErrArg {
		t.Error("Push: arguments ahead of the limit", e)
	}
	if !Idle(queue(1, 1)) || Idle(full) {
		t.Error("Idle")
	}
	if q := Tick(api.Queue{Pending: many(2), Bucket: api.Bucket{Rate: 2, Burst: 3}}); q.Bucket.Level != 2 || len(q.Pending) != 2 {
		t.Error("Tick", q)
	}
}

func TestSend(t *testing.T) {
	q := queue(1, 2, has(9, 1), gone(7), has(5, 2), gone(3), has(1, 1))
	next, l, e := Send(q)
	want, _ := pack.Pack([]api.Change{has(1, 1), gone(3), has(5, 2), gone(7), has(9, 1)})
	if e != api.OK || !reflect.DeepEqual(l, want[:2]) || !reflect.DeepEqual(next.Pending, []api.Change{has(5, 2)}) || next.Bucket.Level != 0 {
		t.Error("Send", next, l, e)
	}
	if again, l, e := Send(next); e != api.OK || len(l) != 0 || !reflect.DeepEqual(again, next) {
		t.Error("Send without a budget", again, l, e)
	}
	next, l, _ = Send(Tick(next))
	if !Idle(next) || !reflect.DeepEqual(l, want[2:]) {
		t.Error("Send after a tick", next, l)
	}
	big := queue(9, 9, many(100)...)
	slices.Reverse(big.Pending)
	next, l, _ = Send(big)
	if len(l) != 1 || len(l[0].Withdraw) != 64 || l[0].Withdraw[0] != at(36) || len(next.Pending) != 36 || next.Pending[0].Prefix != at(35) || next.Bucket.Level != 8 {
		t.Error("Send of the first 64", l, len(next.Pending))
	}
	short, _ := Push(queue(1, 1, has(1, 1)), []api.Change{gone(1)})
	if _, l, _ := Send(short); len(l) != 1 || len(l[0].Announce) != 0 || len(l[0].Withdraw) != 1 {
		t.Error("announced and withdrawn", l)
	}
}

// What was sent and what is pending lead to the newest state of all.
func TestQueueLeadsToTheNewest(t *testing.T) {
	r := rand.New(rand.NewSource(1))
	for range 50 {
		q := queue(r.Intn(2), 1+r.Intn(3))
		var newest, received []api.Route
		for range 30 {
			var l []api.Change
			for range r.Intn(5) {
				c := gone(r.Intn(9))
				if r.Intn(2) == 0 {
					c = has(r.Intn(9), r.Intn(3))
				}
				l = append(l, c)
			}
			newest = delta.Play(newest, l)
			q, _ = Push(q, l)
			next, sent, e := Send(q)
			if e != api.OK || !Valid(next) {
				t.Fatal(e)
			}
			received = delta.Play(received, pack.Unpack(sent, 0))
			if !same.Routes(delta.Play(received, next.Pending), newest) {
				t.Fatal("something is lost")
			}
			q = Tick(next)
		}
	}
}
