package role

import (
	"reflect"
	"testing"

	"exchangepoint/api"
)

func TestRoles(t *testing.T) {
	for mine, want := range map[int]int{api.RoleProvider: api.RoleCustomer, api.RoleCustomer: api.RoleProvider, api.RoleServer: api.RoleClient, api.RoleClient: api.RoleServer, api.RolePeer: api.RolePeer, -1: -1, 5: -1, 1 << 40: -1} {
		if Inverse(mine) != want {
			t.Error("Inverse", mine, Inverse(mine))
		}
		for theirs := -2; theirs < 7; theirs++ {
			if Fits(mine, theirs) != (want >= 0 && theirs == want) {
				t.Error("Fits", mine, theirs)
			}
		}
	}
}

func TestReceive(t *testing.T) {
	for _, x := range []struct {
		mine, otc, want int
		e               api.Errno
	}{
		{api.RoleProvider, -1, -1, 0}, {api.RoleProvider, 7, 0, api.ErrRole}, {api.RoleServer, -1, -1, 0}, {api.RoleServer, 5, 0, api.ErrRole}, {api.RoleClient, -1, 7, 0}, {api.RoleClient, 5, 5, 0}, {api.RoleCustomer, -1, 7, 0}, {api.RoleCustomer, 5, 5, 0},
		{api.RolePeer, -1, 7, 0}, {api.RolePeer, 7, 7, 0}, {api.RolePeer, 5, 0, api.ErrRole}, {-1, -1, 0, api.ErrArg}, {5, 9, 0, api.ErrArg},
	} {
		a := api.Attrs{OTC: x.otc, MED: 3, Communities: []api.Community{{A: 1}}}
		got, e := Receive(x.mine, 7, a)
		a.OTC = x.want
		if e != x.e || e == api.OK && !reflect.DeepEqual(got, a) || e != api.OK && !reflect.DeepEqual(got, api.Attrs{}) {
			t.Error("Receive", x, got, e)
		}
	}
	for _, from := range []int{0, -1, 1 << 32} {
		if _, e := Receive(api.RoleServer, from, api.Attrs{OTC: 5}); e != api.ErrArg {
			t.Error("Receive from", from, e)
		}
	}
}

func TestSend(t *testing.T) {
	for _, x := range []struct {
		mine, otc, want int
		e               api.Errno
	}{
		{api.RoleProvider, -1, 7, 0}, {api.RoleProvider, 5, 5, 0}, {api.RoleServer, -1, 7, 0}, {api.RoleServer, 5, 5, 0}, {api.RolePeer, -1, 7, 0}, {api.RolePeer, 7, 0, api.ErrRole}, {api.RoleClient, -1, -1, 0}, {api.RoleClient, 7, 0, api.ErrRole}, {api.RoleCustomer, -1, -1, 0}, {api.RoleCustomer, 5, 0, api.ErrRole}, {-1, -1, 0, api.ErrArg}, {5, 5, 0, api.ErrArg},
	} {
		a := api.Attrs{OTC: x.otc, MED: 3}
		got, e := Send(x.mine, 7, a)
		a.OTC = x.want
		if e != x.e || e == api.OK && !reflect.DeepEqual(got, a) || e != api.OK && !reflect.DeepEqual(got, api.Attrs{}) {
			t.Error("Send", x, got, e)
		}
	}
	for _, own := range []int{0, -1, 1 << 32} {
		if _, e := Send(api.RoleClient, own, api.Attrs{OTC: 5}); e != api.ErrArg {
			t.Error("Send of", own, e)
		}
	}
}

func hops(roles ...int) []api.Hop {
	var out []api.Hop
	for i, r := range roles {
		out = append(out, api.Hop{From: i + 1, To: i + 2, Role: r})
	}
	return out
}

func TestWays(t *testing.T) {
	for _, x := range []struct {
		l    []api.Hop
		want bool
	}{
		{nil, true}, {hops(3, 2, 1, 0), true}, {hops(4, 4), false}, {hops(4), true}, {hops(3, 4, 0), true}, {hops(0, 3), false}, {hops(1, 4), false}, {hops(4, 2), false}, {hops(5), false}, {hops(-1), false},
		{[]api.Hop{{From: 0, To: 1, Role: 3}}, false}, {[]api.Hop{{From: 1, To: 1 << 32, Role: 3}}, false}, {[]api.Hop{{From: 1, To: 2, Role: 3}, {From: 3, To: 4, Role: 3}}, false}, {[]api.Hop{{From: 1, To: 2, Role: 3}, {From: 2, To: 0, Role: 3}}, false}, {[]api.Hop{{From: 1, To: 2, Role: 3}, {From: 2, To: 1, Role: 3}}, true},
	} {
		if Travels(x.l) != x.want || Valley(x.l) != x.want {
			t.Error("Travels or Valley", x.l, Travels(x.l), Valley(x.l))
		}
	}
	for n := range 5 * 5 * 5 * 5 * 5 {
		l := hops(n%5, n/5%5, n/25%5, n/125%5, n/625)
		if Travels(l) != Valley(l) {
			t.Error("Travels and Valley differ", l)
		}
	}
}
