package attribute

import (
	"bytes"
	"cmp"
	"slices"

	"exchangepoint/addr"
	"exchangepoint/api"
	"exchangepoint/aspath"
)

// Kinds of segments.
const (
	kindSet      = 1
	kindSequence = 2
)

// Read returns the attributes of a list.
func Read(l []api.Unknown) (api.Attrs, api.Errno) {
	first := map[int]api.Unknown{}
	var rest []api.Unknown
	for _, u := range l {
		if _, met := first[u.Type]; !met {
			first[u.Type] = u
			rest = append(rest, u)
		}
	}
	for _, u := range rest {
		if unknown(u.Type) && u.Flags&optional == 0 {
			return api.Attrs{}, api.ErrReset
		}
	}
	a := Empty()
	for kind, flags := range knownFlags() {
		if u, there := first[kind]; there && !(rightFlags(u.Flags, flags) && read(&a, u)) {
			return api.Attrs{}, api.ErrWithdraw
		}
	}
	a.Other = others(rest)
	if len(a.Other) > api.MaxOther {
		return api.Attrs{}, api.ErrLimit
	}
	return a, api.OK
}

// rightFlags compares flags with those of a known type.
func rightFlags(flags, want int) bool {
	const both = optional | transitive
	return flags&both == want && (want == both || flags&partial == 0)
}

// others returns the unknown attributes that are passed on.
func others(l []api.Unknown) []api.Unknown {
	var out []api.Unknown
	for _, u := range l {
		if unknown(u.Type) && u.Type != 0 && u.Flags&transitive != 0 && len(u.Data) <= mostData {
			out = append(out, api.Unknown{Flags: upper, Type: u.Type, Data: bytes.Clone(u.Data)})
		}
	}
	slices.SortFunc(out, func(a, b api.Unknown) int { return cmp.Compare(a.Type, b.Type) })
	return out
}

// read puts a known attribute into a; it returns false if the data are not of its form.
func read(a *api.Attrs, u api.Unknown) bool {
	b := u.Data
	switch u.Type {
	case typeOrigin:
		if len(b) != 1 || b[0] > 2 {
			return false
		}
		a.Origin = int(b[0])
		return true
	case typePath:
		p, ok := readPath(b)
		a.Path = p
		return ok
	case typeCommunities:
		return readCommunities(a, b)
	case typeLarge:
		return readLarge(a, b)
	}
	if len(b) != 4 {
		return false
	}
	n := int(number(b))
	switch u.Type {
	case typeNext:
		a.Next, _ = addr.FromBytes(b)
	case typeMED:
		a.MED = n
	case typePref:
		a.Pref = n
	case typeOTC:
		a.OTC = n
		return n != 0
	}
	return true
}

func readPath(b []byte) ([]api.Segment, bool) {
	var out []api.Segment
	for len(b) > 0 {
		if len(b) < 2 || b[0] != kindSet && b[0] != kindSequence || b[1] == 0 || len(b) < 2+4*int(b[1]) {
			return nil, false
		}
		s := api.Segment{Set: b[0] == kindSet, ASNs: numbers32(b[2 : 2+4*int(b[1])])}
		b = b[2+4*int(b[1]):]
		if s.Set {
			slices.Sort(s.ASNs)
			s.ASNs = slices.Compact(s.ASNs)
		}
		if last := len(out) - 1; last >= 0 && !s.Set && !out[last].Set {
			out[last].ASNs = append(out[last].ASNs, s.ASNs...)
		} else {
			out = append(out, s)
		}
	}
	return out, aspath.Valid(out)
}

func numbers32(b []byte) []int {
	var out []int
	for ; len(b) >= 4; b = b[4:] {
		out = append(out, int(number(b[:4])))
	}
	return out
}

// fitting reports whether b consists of elements of a size, at least one and not too many.
func fitting(b []byte, size int) bool {
	return len(b) > 0 && len(b)%size == 0 && len(b)/size <= api.MaxComm
}

func readCommunities(a *api.Attrs, b []byte) bool {
	if !fitting(b, 4) {
		return false
	}
	var l []api.Community
	for _, n := range numbers32(b) {
		l = append(l, api.Community{A: n >> 16, B: n & 65535})
	}
	slices.SortFunc(l, func(c, d api.Community) int { return cmp.Or(cmp.Compare(c.A, d.A), cmp.Compare(c.B, d.B)) })
	a.Communities = slices.Compact(l)
	return true
}

func readLarge(a *api.Attrs, b []byte) bool {
	if !fitting(b, 12) {
		return false
	}
	var l []api.Large
	for n := numbers32(b); len(n) > 0; n = n[3:] {
		l = append(l, api.Large{A: n[0], B: n[1], C: n[2]})
	}
	slices.SortFunc(l, func(c, d api.Large) int {
		return cmp.Or(cmp.Compare(c.A, d.A), cmp.Compare(c.B, d.B), cmp.Compare(c.C, d.C))
	})
	a.Large = slices.Compact(l)
	return true
}
