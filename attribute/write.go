package attribute

import (
	"cmp"
	"slices"

	"exchangepoint/addr"
	"exchangepoint/api"
	"exchangepoint/copies"
)

func append16(b []byte, n int) []byte {
	return append(b, byte(n>>8), byte(n))
}

func append32(b []byte, n int) []byte {
	return append16(append16(b, n>>16), n)
}

// Write returns the attributes in ascending order of their types.
func Write(a api.Attrs) ([]api.Unknown, api.Errno) {
	if !Valid(a) {
		return nil, api.ErrArg
	}
	flags := knownFlags()
	out := copies.Each(a.Other, copies.Unknown)
	write := func(there bool, kind int, data []byte) {
		if there {
			out = append(out, api.Unknown{Flags: flags[kind], Type: kind, Data: data})
		}
	}
	write(a.Origin != -1, typeOrigin, []byte{byte(a.Origin)})
	write(a.Origin != -1 || len(a.Path) > 0, typePath, pathBytes(a.Path))
	write(a.Next != (api.Addr{}) && !a.Next.V6, typeNext, addr.Bytes(a.Next))
	write(a.MED != -1, typeMED, append32(nil, a.MED))
	write(a.Pref != -1, typePref, append32(nil, a.Pref))
	write(len(a.Communities) > 0, typeCommunities, communityBytes(a.Communities))
	write(len(a.Large) > 0, typeLarge, largeBytes(a.Large))
	write(a.OTC != -1, typeOTC, append32(nil, a.OTC))
	slices.SortFunc(out, func(a, b api.Unknown) int { return cmp.Compare(a.Type, b.Type) })
	return out, api.OK
}

func pathBytes(p []api.Segment) []byte {
	var b []byte
	for _, s := range p {
		kind := byte(kindSequence)
		if s.Set {
			kind = kindSet
		}
		b = append(b, kind, byte(len(s.ASNs)))
		for _, n := range s.ASNs {
			b = append32(b, n)
		}
	}
	return b
}

func communityBytes(l []api.Community) []byte {
	var b []byte
	for _, c := range l {
		b = append16(append16(b, c.A), c.B)
	}
	return b
}

func largeBytes(l []api.Large) []byte {
	var b []byte
	for _, c := range l {
		b = append32(append32(append32(b, c.A), c.B), c.C)
	}
	return b
}
