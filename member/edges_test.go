package member

import (
	"strconv"
	"testing"

	"exchangepoint/api"
)

// full returns a database at all limits.
func full() api.Database {
	d := api.Database{LAN4: api.Prefix{Addr: at("10.0.0.0"), Len: 8}, LAN6: api.Prefix{Addr: at("2001:db8::"), Len: 32}}
	id := 0
	make1 := func(asn int, name string, ports int) api.Member {
		m := api.Member{ASN: asn, Name: name, Set: "--", Max4: api.MaxTable, Max6: api.MaxTable}
		for range ports {
			id++
			p := api.Port{ID: id, Switch: api.MaxSwitches - 1, Speed: api.MaxSpeed, MACs: []api.MAC{{2, 0, 0, 0, byte(id), 1}, {2, 0, 0, 0, byte(id), 2}}}
			p.V4, p.V6 = api.Addr{Lo: 10<<24 + uint64(id)}, at("2001:db8::")
			p.V6.Lo = uint64(id)
			m.Ports = append(m.Ports, p)
		}
		return m
	}
	for i := range 4 {
		d.Servers = append(d.Servers, make1(1, "rs"+strconv.Itoa(i), api.MaxPorts))
	}
	for i := range api.MaxMembers {
		d.Members = append(d.Members, make1(api.MaxASN-i, "m"+strconv.Itoa(i), api.MaxPorts))
	}
	return d
}

func TestLimits(t *testing.T) {
	d := full()
	s, e := Print(d)
	if Check(d) != api.OK || e != api.OK {
		t.Fatal("a database at the limits", Check(d))
	}
	if back, e := Parse(s); e != api.OK || len(back.Members) != 32 || len(Ports(back)) != 144 {
		t.Error("Parse", e)
	}
	d.LAN4, d.LAN6 = api.Prefix{Addr: at("10.0.0.0"), Len: 30}, api.Prefix{Addr: at("2001:db8::"), Len: 64}
	d.Servers, d.Members = nil, d.Members[:1]
	d.Members[0].Ports = d.Members[0].Ports[:1]
	d.Members[0].Ports[0].V4 = at("10.0.0.1")
	if e := Check(d); e != api.OK {
		t.Error("the longest blocks", e)
	}
	d.LAN6 = api.Prefix{Addr: at("2001:db8::"), Len: 65}
	if e := Check(d); e != api.ErrArg {
		t.Error("LAN6 of 65 bits", e)
	}
	d = full()
	d.Servers = d.Servers[:1]
	d.Members[0].ASN = 1
	if e := Check(d); e != api.ErrExists {
		t.Error("a member with the ASN of the one server", e)
	}
	d.LAN4 = api.Prefix{Addr: at("10.0.0.0"), Len: 31}
	if e := Check(d); e != api.ErrArg {
		t.Error("LAN4 of 31 bits", e)
	}
}
