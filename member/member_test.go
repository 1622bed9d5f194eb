package member

import (
	"reflect"
	"strings"
	"testing"

	"exchangepoint/addr"
	"exchangepoint/api"
)

func at(s string) api.Addr {
	a, e := addr.Parse(s)
	if e != api.OK {
		panic(s)
	}
	return a
}

const text = `lan 192.0.2.0/24 2001:db8::/64
server 64496 rs1 - 0 512
port 3 0 10 02:00:00:00:00:03 192.0.2.3 2001:db8::3
server 64496 rs2 - 0 0
port 4 1 400 02:00:00:00:00:04 192.0.2.4 -
member 64500 Alpha:1 AS-ALPHA 10 20
port 1 7 1 02:00:00:00:00:01,02:00:00:00:00:11 - 2001:db8::1
port 999 7 1 02:00:00:00:00:05 192.0.2.254 -
member 4294967295 Beta - 512 0
port 2 0 1 02:00:00:00:00:02 192.0.2.1 2001:db8::2
`

func base(t *testing.T) api.Database {
	t.Helper()
	d, e := Parse(text)
	if e != api.OK {
		t.Fatal("Parse", e)
	}
	return d
}

func TestTexts(t *testing.T) {
	d := base(t)
	if d.LAN4.Len != 24 || len(d.Servers) != 2 || len(d.Members) != 2 || d.Servers[0].Set != "" || d.Members[0].Set != "AS-ALPHA" {
		t.Error("Parse", d)
	}
	want := api.Member{ASN: 64500, Name: "Alpha:1", Set: "AS-ALPHA", Max4: 10, Max6: 20, Ports: []api.Port{
		{ID: 1, Switch: 7, Speed: 1, MACs: []api.MAC{{2, 0, 0, 0, 0, 1}, {2, 0, 0, 0, 0, 0x11}}, V6: at("2001:db8::1")},
		{ID: 999, Switch: 7, Speed: 1, MACs: []api.MAC{{2, 0, 0, 0, 0, 5}}, V4: at("192.0.2.254")}}}
	if !reflect.DeepEqual(d.Members[0], want) {
		t.Error("Parse", d.Members[0])
	}
	if s, e := Print(d); e != api.OK || s != text {
		t.Error("Print", s, e)
	}
	if d, e := Parse("lan 192.0.2.0/24 2001:db8::/64\n"); e != api.OK || len(d.Members) != 0 {
		t.Error("an empty database", e)
	}
}

func TestParseErrors(t *testing.T) {
	lan := "lan 192.0.2.0/24 2001:db8::/64\n"
	one := lan + "member 1 a - 0 0\n"
	port := "port 1 0 1 02:00:00:00:00:01 192.0.2.1 -\n"
	for s, want := range map[string]api.Errno{
		"": api.ErrSyntax, "\n": api.ErrSyntax, strings.TrimSpace(lan): api.ErrSyntax, lan + "\n": api.ErrSyntax, lan + lan: api.ErrSyntax, lan + port: api.ErrSyntax,
		"lan 192.0.2.1/24 2001:db8::/64\n": api.ErrSyntax, "lan 192.0.2.0/24 2001:DB8::/64\n": api.ErrSyntax, "lan 192.0.2.0/24 2001:db8::/64 \n": api.ErrSyntax, "lan  192.0.2.0/24 2001:db8::/64\n": api.ErrSyntax,
		one: api.ErrLimit, one + port: api.OK, one + port + "server 2 b - 0 0\n" + strings.Replace(port, "1", "2", 1): api.ErrSyntax,
		lan + "member 01 a - 0 0\n": api.ErrSyntax, lan + "member 1  - 0 0\n": api.ErrSyntax, lan + "member 1 a  0 0\n": api.ErrSyntax, lan + "member -1 a - 0 0\n": api.ErrSyntax, lan + "member 1099511627777 a - 0 0\n": api.ErrSyntax, lan + "member 1099511627776 a - 0 0\n" + port: api.ErrArg,
		lan + "member 1 ä - 0 0\n" + port: api.ErrArg, lan + "member 1 a - 0\n": api.ErrSyntax,
		one + strings.Replace(port, " -", "", 1): api.ErrSyntax, one + strings.Replace(port, "02:00:00:00:00:01", "-", 1): api.ErrSyntax, one + strings.Replace(port, "02:00:00:00:00:01", "0A:00:00:00:00:01", 1): api.ErrSyntax,
		one + strings.Replace(port, "192.0.2.1", "0.0.0.0", 1): api.ErrSyntax, one + strings.Replace(port, " -", " 2001:db8:0::1", 1): api.ErrSyntax, one + strings.Replace(port, " -", " 192.0.2.2", 1): api.ErrArg, one + strings.Replace(port, "192.0.2.1", "::", 1): api.ErrArg,
		one + strings.Replace(port, " -", " ::", 1): api.ErrRange,
		"lan ::/64 ::/64\n":                         api.ErrArg, "lan 0.0.0.0/7 ::/64\n": api.ErrArg,
		strings.Repeat("x", 65537): api.ErrLimit, strings.Repeat("x", 65536): api.ErrSyntax,
		one + strings.Replace(port, "02:00:00:00:00:01", "02:00:00:00:00:01,02:00:00:00:00:02,02:00:00:00:00:03", 1): api.ErrLimit,
	} {
		if d, e := Parse(s); e != want || e != api.OK && !reflect.DeepEqual(d, api.Database{}) {
			t.Errorf("Parse %.90q %v, not %v", s, e, want)
		}
	}
}

func TestCheck(t *testing.T) {
	v6 := at("2001:db8::9")
	for name, x := range map[string]struct {
		change func(d *api.Database)
		want   api.Errno
	}{
		"nothing":         {func(d *api.Database) {}, api.OK},
		"servers":         {func(d *api.Database) { d.Servers = make([]api.Member, 5) }, api.ErrLimit},
		"members":         {func(d *api.Database) { d.Members = make([]api.Member, 33) }, api.ErrLimit},
		"no ports":        {func(d *api.Database) { d.Members[1].Ports = nil }, api.ErrLimit},
		"ports":           {func(d *api.Database) { d.Members[1].Ports = make([]api.Port, 5) }, api.ErrLimit},
		"no MACs":         {func(d *api.Database) { d.Servers[1].Ports[0].MACs = nil; d.LAN4.Len = 99 }, api.ErrLimit},
		"MACs":            {func(d *api.Database) { d.Servers[1].Ports[0].MACs = make([]api.MAC, 3) }, api.ErrLimit},
		"LAN4 with V6":    {func(d *api.Database) { d.LAN4 = d.LAN6 }, api.ErrArg},
		"LAN4 long":       {func(d *api.Database) { d.LAN4.Len = 31 }, api.ErrArg},
		"LAN4 short":      {func(d *api.Database) { d.LAN4 = api.Prefix{Len: 7} }, api.ErrArg},
		"LAN6 short":      {func(d *api.Database) { d.LAN6 = api.Prefix{Addr: api.Addr{V6: true}, Len: 31} }, api.ErrArg},
		"LAN6 long":       {func(d *api.Database) { d.LAN6.Len = 65 }, api.ErrArg},
		"ASN 0":           {func(d *api.Database) { d.Members[0].ASN = 0 }, api.ErrArg},
		"ASN":             {func(d *api.Database) { d.Members[0].ASN = 1 << 32 }, api.ErrArg},
		"name":            {func(d *api.Database) { d.Servers[0].Name = "" }, api.ErrArg},
		"set":             {func(d *api.Database) { d.Members[0].Set = "a b" }, api.ErrArg},
		"set -":           {func(d *api.Database) { d.Members[0].Set = "-" }, api.ErrArg},
		"set --":          {func(d *api.Database) { d.Members[0].Set = "--" }, api.OK},
		"Max4":            {func(d *api.Database) { d.Members[0].Max4 = 513 }, api.ErrArg},
		"Max6":            {func(d *api.Database) { d.Members[0].Max6 = -1 }, api.ErrArg},
		"ID 0":            {func(d *api.Database) { d.Members[0].Ports[0].ID = 0 }, api.ErrArg},
		"ID":              {func(d *api.Database) { d.Members[0].Ports[0].ID = 1000 }, api.ErrArg},
		"switch":          {func(d *api.Database) { d.Members[0].Ports[0].Switch = 8 }, api.ErrArg},
		"speed 0":         {func(d *api.Database) { d.Members[0].Ports[0].Speed = 0 }, api.ErrArg},
		"speed":           {func(d *api.Database) { d.Members[0].Ports[0].Speed = 401 }, api.ErrArg},
		"group":           {func(d *api.Database) { d.Members[0].Ports[0].MACs[1][0] = 3 }, api.ErrArg},
		"zero MAC":        {func(d *api.Database) { d.Members[0].Ports[0].MACs[1] = api.MAC{} }, api.ErrArg},
		"V4":              {func(d *api.Database) { d.Members[0].Ports[0].V4 = api.Addr{Hi: 1} }, api.ErrArg},
		"V4 with V6":      {func(d *api.Database) { d.Members[0].Ports[0].V4 = v6 }, api.ErrArg},
		"V6 without V6":   {func(d *api.Database) { d.Members[0].Ports[1].V6 = at("192.0.2.9") }, api.ErrArg},
		"no address":      {func(d *api.Database) { d.Members[0].Ports[1].V4 = api.Addr{} }, api.ErrArg},
		"V4 outside":      {func(d *api.Database) { d.Members[0].Ports[1].V4 = at("192.0.3.1"); d.Members[0].ASN = 64496 }, api.ErrRange},
		"V4 first":        {func(d *api.Database) { d.Members[0].Ports[1].V4 = at("192.0.2.0") }, api.ErrRange},
		"V4 last":         {func(d *api.Database) { d.Members[0].Ports[1].V4 = at("192.0.2.255") }, api.ErrRange},
		"V6 outside":      {func(d *api.Database) { d.Members[0].Ports[1].V6 = at("2001:db9::1") }, api.ErrRange},
		"V6 first":        {func(d *api.Database) { d.Members[0].Ports[1].V6 = at("2001:db8::") }, api.ErrRange},
		"V6 last":         {func(d *api.Database) { d.Members[0].Ports[1].V6 = at("2001:db8::ffff:ffff:ffff:ffff") }, api.OK},
		"servers' ASNs":   {func(d *api.Database) { d.Servers[1].ASN = 1 }, api.ErrExists},
		"members' ASNs":   {func(d *api.Database) { d.Members[1].ASN = 64500 }, api.ErrExists},
		"a server's ASN":  {func(d *api.Database) { d.Members[1].ASN = 64496 }, api.ErrExists},
		"servers' names":  {func(d *api.Database) { d.Servers[1].Name = "rs1" }, api.ErrExists},
		"a server's name": {func(d *api.Database) { d.Members[1].Name = "rs1" }, api.ErrExists},
		"IDs":             {func(d *api.Database) { d.Members[1].Ports[0].ID = 3 }, api.ErrExists},
		"MAC twice":       {func(d *api.Database) { d.Members[0].Ports[0].MACs[1][5] = 1 }, api.ErrExists},
		"V4 twice":        {func(d *api.Database) { d.Members[0].Ports[0].V4 = at("192.0.2.3") }, api.ErrExists},
		"V6 twice":        {func(d *api.Database) { d.Members[0].Ports[0].V6 = at("2001:db8::3") }, api.ErrExists},
	} {
		d := base(t)
		x.change(&d)
		if e := Check(d); e != x.want {
			t.Error("Check", name, e)
		}
		if s, e := Print(d); e != x.want || e != api.OK && s != "" {
			t.Error("Print", name, e)
		}
	}
}

func TestFind(t *testing.T) {
	d := base(t)
	if m, ok := Find(d, 64500); !ok || !reflect.DeepEqual(m, d.Members[0]) {
		t.Error("Find", m, ok)
	}
	if m, ok := Find(d, 64496); !ok || m.Name != "rs1" {
		t.Error("Find of servers", m, ok)
	}
	if m, ok := Find(d, 1); ok || !reflect.DeepEqual(m, api.Member{}) {
		t.Error("Find of none", m, ok)
	}
	var ids []int
	for _, p := range Ports(d) {
		ids = append(ids, p.ID)
	}
	if !reflect.DeepEqual(ids, []int{1, 2, 3, 4, 999}) {
		t.Error("Ports", ids)
	}
	for id, want := range map[int]int{1: 64500, 999: 64500, 2: 4294967295, 4: 64496} {
		if n, ok := Owner(d, id); !ok || n != want {
			t.Error("Owner", id, n, ok)
		}
	}
	if n, ok := Owner(d, 5); ok || n != 0 {
		t.Error("Owner of none", n, ok)
	}
}
