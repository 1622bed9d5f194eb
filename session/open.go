// Package session is layer 32: one side of a session. See doc/32-session.md.
package session

import "exchangepoint/api"

const (
	version   = 4
	shortASN  = 23456 // stands for an AS number that does not fit into two bytes
	head      = 10
	part      = 2 // the type of the parts that consist of capabilities
	leastHold = 3
)

// Codes of capabilities.
const (
	codeRole  = 9
	codeGrace = 64
	codeASN   = 65
)

// Valid reports whether o is valid.
func Valid(o api.Open) bool {
	return o.ASN >= 1 && o.ASN <= api.MaxASN && o.ID >= 1 && o.ID <= 1<<32-1 &&
		(o.Hold == 0 || o.Hold >= leastHold && o.Hold <= api.MaxHold) &&
		o.Role >= -1 && o.Role <= api.RolePeer && o.Grace >= 0 && o.Grace <= api.MaxGrace
}

func append16(b []byte, n int) []byte {
	return append(b, byte(n>>8), byte(n))
}

func append32(b []byte, n int) []byte {
	return append16(append16(b, n>>16), n)
}

func number(b []byte) int {
	n := 0
	for _, c := range b {
		n = n<<8 | int(c)
	}
	return n
}

// Encode returns the bytes of an open.
func Encode(o api.Open) ([]byte, api.Errno) {
	if !Valid(o) {
		return nil, api.ErrArg
	}
	var l []byte
	if o.Role != -1 {
		l = append(l, codeRole, 1, byte(o.Role))
	}
	if o.Grace != 0 || o.Again {
		grace := o.Grace
		if o.Again {
			grace |= 1 << 15
		}
		l = append16(append(l, codeGrace, 2), grace)
	}
	l = append32(append(l, codeASN, 4), o.ASN)
	short := o.ASN
	if short > 65535 {
		short = shortASN
	}
	b := append16(append16([]byte{version}, short), o.Hold)
	b = append(append32(b, o.ID), byte(len(l)+2), part, byte(len(l)))
	return append(b, l...), api.OK
}

// Decode reads an open.
func Decode(b []byte) (api.Open, api.Errno) {
	if len(b) < head {
		return api.Open{}, api.ErrShort
	}
	if b[0] != version {
		return api.Open{}, api.ErrVersion
	}
	found, ok := capabilities(b[head-1:])
	if !ok {
		return api.Open{}, api.ErrForm
	}
	o := api.Open{ASN: number(b[1:3]), Hold: number(b[3:5]), ID: number(b[5:9]), Role: -1}
	if l, there := found[codeASN]; there {
		short := o.ASN
		o.ASN = number(l)
		if short != o.ASN && (short != shortASN || o.ASN <= 65535) {
			return api.Open{}, api.ErrForm
		}
	}
	if l, there := found[codeRole]; there {
		o.Role = number(l)
	}
	if l, there := found[codeGrace]; there {
		o.Again = l[0]&128 != 0
		o.Grace = number(l) & 0xfff
	}
	if !Valid(o) {
		return api.Open{}, api.ErrArg
	}
	return o, api.OK
}

// capabilities returns the bytes of the capabilities that matter, by their codes; b begins with the length of all parts.
func capabilities(b []byte) (map[byte][]byte, bool) {
	if int(b[0]) != len(b)-1 {
		return nil, false
	}
	found := map[byte][]byte{}
	ok := pieces(b[1:], func(kind byte, inner []byte) bool {
		return kind == part && pieces(inner, func(code byte, l []byte) bool {
			size := sizeOf(code)
			if size == 0 {
				return true
			}
			_, met := found[code]
			found[code] = l
			return !met && len(l) == size
		})
	})
	return found, ok
}

// sizeOf returns how many bytes a capability has, 0 for those that are ignored.
func sizeOf(code byte) int {
	switch code {
	case codeRole:
		return 1
	case codeGrace:
		return 2
	case codeASN:
		return 4
	}
	return 0
}

// pieces takes pieces, each with a byte, a length and as many bytes, until one of them is not right.
func pieces(b []byte, take func(kind byte, l []byte) bool) bool {
	for len(b) > 0 {
		if len(b) < 2 || len(b) < 2+int(b[1]) {
			return false
		}
		end := 2 + int(b[1])
		if !take(b[0], b[2:end]) {
			return false
		}
		b = b[end:]
	}
	return true
}
