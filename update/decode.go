package update

import (
	"bytes"

	"exchangepoint/addr"
	"exchangepoint/api"
	"exchangepoint/attribute"
	"exchangepoint/prefix"
)

// parts are the parts of a body: codes, attributes, and codes.
type parts struct {
	withdrawn []byte
	attrs     []api.Unknown
	announced []byte
}

// divide divides a body; it returns false if a length is wrong.
func divide(b []byte) (parts, bool) {
	rest, ok := b, true
	take := func(n int) []byte {
		if n > len(rest) {
			ok = false
			n = 0
		}
		part := make([]byte, n)
		copy(part, rest)
		rest = rest[n:]
		return part
	}
	length := func() int {
		n := take(2)
		if !ok {
			return 0
		}
		return int(n[0])<<8 | int(n[1])
	}
	withdrawn := take(length())
	attrs := take(length())
	if !ok {
		return parts{}, false
	}
	l, e := attribute.Split(attrs)
	return parts{withdrawn, l, take(len(rest))}, e == api.OK
}

// prefixes reads codes.
func prefixes(b []byte, v6 bool) ([]api.Prefix, bool) {
	width := width4
	if v6 {
		width = width6
	}
	var out []api.Prefix
	for len(b) > 0 {
		n := int(b[0])
		size := (n + 7) / 8
		if n > width || len(b) < 1+size {
			return nil, false
		}
		whole := make([]byte, width/8)
		copy(whole, b[1:1+size])
		a, _ := addr.FromBytes(whole)
		p, _ := prefix.Make(a, n)
		out = append(out, p)
		b = b[1+size:]
	}
	return out, true
}

// content is what a body says, before the attributes are read.
type content struct {
	withdraw, announce []api.Prefix
	next               api.Addr // of the announced prefixes with V6
	attrs              []api.Unknown
}

// only returns the attribute of a type, or nil if there is none; false if there are several.
func only(l []api.Unknown, kind int) (*api.Unknown, bool) {
	var found *api.Unknown
	for i := range l {
		if l[i].Type != kind {
			continue
		}
		if found != nil {
			return nil, false
		}
		found = &l[i]
	}
	return found, true
}

// read reads all prefixes of a body; it returns false if the session has to be reset.
func read(b []byte) (content, bool) {
	p, ok := divide(b)
	if !ok {
		return content{}, false
	}
	c := content{attrs: p.attrs}
	var ok1, ok2, ok3, ok4 bool
	c.withdraw, ok1 = prefixes(p.withdrawn, false)
	withdraw6, ok2 := withdrawn6(p.attrs)
	announce6, next, ok3 := announced6(p.attrs)
	c.announce, ok4 = prefixes(p.announced, false)
	if !ok1 || !ok2 || !ok3 || !ok4 || len(announce6) > 0 && len(c.announce) > 0 {
		return content{}, false
	}
	c.withdraw = append(c.withdraw, withdraw6...)
	if len(announce6) > 0 {
		c.announce, c.next = announce6, next
	}
	return c, len(c.withdraw) <= api.MaxNLRI && len(c.announce) <= api.MaxNLRI
}

func withdrawn6(l []api.Unknown) ([]api.Prefix, bool) {
	u, ok := only(l, typeWithdrawn)
	if !ok || u == nil {
		return nil, ok
	}
	codes, ok := bytes.CutPrefix(u.Data, []byte(family))
	if !ok {
		return nil, false
	}
	return prefixes(codes, true)
}

func announced6(l []api.Unknown) ([]api.Prefix, api.Addr, bool) {
	u, ok := only(l, typeAnnounced)
	if !ok || u == nil {
		return nil, api.Addr{}, ok
	}
	rest, ok := bytes.CutPrefix(u.Data, []byte(family+"\x10"))
	if !ok || len(rest) < 17 || rest[16] != 0 {
		return nil, api.Addr{}, false
	}
	next, _ := addr.FromBytes(rest[:16])
	out, ok := prefixes(rest[17:], true)
	return out, next, ok
}

// Decode reads the body of an update.
func Decode(b []byte) (api.Update, api.Errno) {
	c, ok := read(b)
	if !ok {
		return api.Update{}, api.ErrReset
	}
	attrs, e := attribute.Read(c.attrs)
	if e == api.ErrReset {
		return api.Update{}, api.ErrReset
	}
	if len(c.announce) == 0 {
		return api.Update{Withdraw: c.withdraw, Attrs: attribute.Empty()}, api.OK
	}
	if c.next != (api.Addr{}) {
		attrs.Next = c.next
	}
	if e != api.OK || !acceptable(c, attrs) {
		return api.Update{Withdraw: append(c.withdraw, c.announce...), Attrs: attribute.Empty()}, api.ErrWithdraw
	}
	return api.Update{Withdraw: c.withdraw, Attrs: attrs, Announce: c.announce}, api.OK
}

// acceptable reports whether the attributes of announced prefixes are there.
func acceptable(c content, a api.Attrs) bool {
	path := false
	for _, u := range c.attrs {
		if (u.Type == typeAnnounced || u.Type == typeWithdrawn) && u.Flags&(optional|transitive) != optional {
			return false
		}
		path = path || u.Type == typePath
	}
	return path && a.Origin != -1 && a.Next != (api.Addr{})
}
