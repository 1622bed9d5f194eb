package member

import (
	"strconv"
	"strings"

	"exchangepoint/addr"
	"exchangepoint/api"
	"exchangepoint/ether"
	"exchangepoint/prefix"
	"exchangepoint/word"
)

const (
	none       = "-"
	mostNumber = 1 << 40
)

// Print returns the text of a database.
func Print(d api.Database) (string, api.Errno) {
	if e := Check(d); e != api.OK {
		return "", e
	}
	var b strings.Builder
	line(&b, "lan", prefix.Print(d.LAN4), prefix.Print(d.LAN6))
	for _, m := range d.Servers {
		printMember(&b, "server", m)
	}
	for _, m := range d.Members {
		printMember(&b, "member", m)
	}
	return b.String(), api.OK
}

func line(b *strings.Builder, words ...string) {
	b.WriteString(strings.Join(words, " ") + "\n")
}

func printMember(b *strings.Builder, kind string, m api.Member) {
	set := m.Set
	if set == "" {
		set = none
	}
	line(b, kind, strconv.Itoa(m.ASN), m.Name, set, strconv.Itoa(m.Max4), strconv.Itoa(m.Max6))
	for _, p := range m.Ports {
		var macs []string
		for _, m := range p.MACs {
			macs = append(macs, ether.Print(m))
		}
		line(b, "port", strconv.Itoa(p.ID), strconv.Itoa(p.Switch), strconv.Itoa(p.Speed), strings.Join(macs, ","), printAddr(p.V4), printAddr(p.V6))
	}
}

func printAddr(a api.Addr) string {
	if a == (api.Addr{}) {
		return none
	}
	return addr.Print(a)
}

// Parse reads the text of a database.
func Parse(s string) (api.Database, api.Errno) {
	if len(s) > api.MaxText {
		return api.Database{}, api.ErrLimit
	}
	d, ok := parse(s)
	if !ok {
		return api.Database{}, api.ErrSyntax
	}
	if e := Check(d); e != api.OK {
		return api.Database{}, e
	}
	return d, api.OK
}

func parse(s string) (api.Database, bool) {
	var d api.Database
	if !strings.HasSuffix(s, "\n") {
		return d, false
	}
	lines := strings.Split(strings.TrimSuffix(s, "\n"), "\n")
	var ok1, ok2 bool
	lan := strings.Split(lines[0], " ")
	if len(lan) != 3 || lan[0] != "lan" {
		return d, false
	}
	d.LAN4, ok1 = parsePrefix(lan[1])
	d.LAN6, ok2 = parsePrefix(lan[2])
	if !ok1 || !ok2 {
		return d, false
	}
	for _, l := range lines[1:] {
		if !parseLine(&d, strings.Split(l, " ")) {
			return d, false
		}
	}
	return d, true
}

// parseLine adds a server, a member, or a port of the last one of these.
func parseLine(d *api.Database, words []string) bool {
	switch words[0] {
	case "server":
		m, ok := parseMember(words)
		d.Servers = append(d.Servers, m)
		return ok && len(d.Members) == 0
	case "member":
		m, ok := parseMember(words)
		d.Members = append(d.Members, m)
		return ok
	case "port":
		p, ok := parsePort(words)
		l := d.Members
		if len(l) == 0 {
			l = d.Servers
		}
		if !ok || len(l) == 0 {
			return false
		}
		last := &l[len(l)-1]
		last.Ports = append(last.Ports, p)
		return true
	}
	return false
}

func parseMember(words []string) (api.Member, bool) {
	if len(words) != 6 || words[2] == "" || words[3] == "" {
		return api.Member{}, false
	}
	n, ok := numbers(words[1], words[4], words[5])
	if !ok {
		return api.Member{}, false
	}
	m := api.Member{ASN: n[0], Name: words[2], Set: words[3], Max4: n[1], Max6: n[2]}
	if m.Set == none {
		m.Set = ""
	}
	return m, true
}

func parsePort(words []string) (api.Port, bool) {
	if len(words) != 7 {
		return api.Port{}, false
	}
	n, ok := numbers(words[1], words[2], words[3])
	if !ok {
		return api.Port{}, false
	}
	p := api.Port{ID: n[0], Switch: n[1], Speed: n[2]}
	for _, s := range strings.Split(words[4], ",") {
		m, e := ether.Parse(s)
		if e != api.OK {
			return api.Port{}, false
		}
		p.MACs = append(p.MACs, m)
	}
	var ok4, ok6 bool
	p.V4, ok4 = parseAddr(words[5])
	p.V6, ok6 = parseAddr(words[6])
	return p, ok4 && ok6
}

func numbers(words ...string) ([]int, bool) {
	var out []int
	for _, w := range words {
		n, ok := word.Number(w, mostNumber)
		if !ok {
			return nil, false
		}
		out = append(out, n)
	}
	return out, true
}

// parsePrefix reads a prefix in the one form in which it is printed.
func parsePrefix(s string) (api.Prefix, bool) {
	p, e := prefix.Parse(s)
	return p, e == api.OK && prefix.Print(p) == s
}

func parseAddr(s string) (api.Addr, bool) {
	if s == none {
		return api.Addr{}, true
	}
	a, e := addr.Parse(s)
	return a, e == api.OK && printAddr(a) == s
}
