// Package addr is layer 1: addresses. See doc/01-addr.md.
package addr

import (
	"cmp"
	"strconv"
	"strings"

	"exchangepoint/api"
)

// most4 is the greatest number of an address without V6.
const most4 = 1<<32 - 1

// longest is the length of the longest text of an address.
const longest = 45

// groups are the eight groups of 16 bits of an address with V6.
type groups [8]uint16

// Valid reports whether a is valid.
func Valid(a api.Addr) bool {
	return a.V6 || a.Hi == 0 && a.Lo <= most4
}

// Cmp returns -1, 0 or 1 by the order of addresses.
func Cmp(a, b api.Addr) int {
	if a.V6 != b.V6 {
		if b.V6 {
			return -1
		}
		return 1
	}
	return cmp.Or(cmp.Compare(a.Hi, b.Hi), cmp.Compare(a.Lo, b.Lo))
}

// Next returns the address of the same family that follows.
func Next(a api.Addr) (api.Addr, bool) {
	if !a.V6 {
		if a.Lo >= most4 {
			return api.Addr{}, false
		}
		return api.Addr{Lo: a.Lo + 1}, true
	}
	next := api.Addr{V6: true, Hi: a.Hi, Lo: a.Lo + 1}
	if next.Lo == 0 {
		next.Hi++
		if next.Hi == 0 {
			return api.Addr{}, false
		}
	}
	return next, true
}

// Bytes returns the 4 or 16 bytes of a valid address.
func Bytes(a api.Addr) []byte {
	if !Valid(a) {
		return nil
	}
	if !a.V6 {
		return appendNumber(nil, a.Lo, 4)
	}
	return appendNumber(appendNumber(nil, a.Hi, 8), a.Lo, 8)
}

func appendNumber(b []byte, n uint64, size int) []byte {
	for i := size - 1; i >= 0; i-- {
		b = append(b, byte(n>>(8*i)))
	}
	return b
}

// FromBytes returns the address of 4 or 16 bytes.
func FromBytes(b []byte) (api.Addr, api.Errno) {
	switch len(b) {
	case 4:
		return api.Addr{Lo: number(b)}, api.OK
	case 16:
		return api.Addr{V6: true, Hi: number(b[:8]), Lo: number(b[8:])}, api.OK
	}
	return api.Addr{}, api.ErrArg
}

func number(b []byte) uint64 {
	n := uint64(0)
	for _, c := range b {
		n = n<<8 | uint64(c)
	}
	return n
}

// Print returns the text of a valid address.
func Print(a api.Addr) string {
	if !Valid(a) {
		return ""
	}
	if !a.V6 {
		return print4(a.Lo)
	}
	return print6(split(a))
}

func print4(n uint64) string {
	var parts []string
	for i := 3; i >= 0; i-- {
		parts = append(parts, strconv.Itoa(int(n>>(8*i)&255)))
	}
	return strings.Join(parts, ".")
}

func split(a api.Addr) groups {
	var g groups
	for i := range 4 {
		g[i] = uint16(a.Hi >> (48 - 16*i))
		g[4+i] = uint16(a.Lo >> (48 - 16*i))
	}
	return g
}

func join(g groups) api.Addr {
	a := api.Addr{V6: true}
	for i := range 4 {
		a.Hi = a.Hi<<16 | uint64(g[i])
		a.Lo = a.Lo<<16 | uint64(g[4+i])
	}
	return a
}

func print6(g groups) string {
	from, size := longestRun(g)
	if size < 2 {
		return printGroups(g[:])
	}
	return printGroups(g[:from]) + "::" + printGroups(g[from+size:])
}

func printGroups(l []uint16) string {
	var parts []string
	for _, x := range l {
		parts = append(parts, strconv.FormatUint(uint64(x), 16))
	}
	return strings.Join(parts, ":")
}

// longestRun finds the first one of the longest runs of groups that are 0.
func longestRun(g groups) (int, int) {
	from, size := 0, 0
	for i := range g {
		n := 0
		for i+n < len(g) && g[i+n] == 0 {
			n++
		}
		if n > size {
			from, size = i, n
		}
	}
	return from, size
}

// Parse reads a text of an address.
func Parse(s string) (api.Addr, api.Errno) {
	if len(s) > longest {
		return api.Addr{}, api.ErrSyntax
	}
	if !strings.Contains(s, ":") {
		n, ok := parse4(s)
		if !ok {
			return api.Addr{}, api.ErrSyntax
		}
		return api.Addr{Lo: n}, api.OK
	}
	g, ok := parse6(s)
	if !ok {
		return api.Addr{}, api.ErrSyntax
	}
	return join(g), api.OK
}

func parse4(s string) (uint64, bool) {
	parts := strings.Split(s, ".")
	if len(parts) != 4 {
		return 0, false
	}
	n := uint64(0)
	for _, p := range parts {
		x, err := strconv.ParseUint(p, 10, 8)
		if err != nil || strconv.FormatUint(x, 10) != p {
			return 0, false
		}
		n = n<<8 | x
	}
	return n, true
}

func parse6(s string) (groups, bool) {
	var g groups
	head, tail, short := strings.Cut(s, "::")
	if !short {
		l, ok := parseGroups(s, true)
		if !ok || len(l) != len(g) {
			return groups{}, false
		}
		copy(g[:], l)
		return g, true
	}
	first, ok1 := parseGroups(head, false)
	last, ok2 := parseGroups(tail, true)
	if !ok1 || !ok2 || len(first)+len(last) >= len(g) {
		return groups{}, false
	}
	copy(g[:], first)
	copy(g[len(g)-len(last):], last)
	return g, true
}

// parseGroups reads groups that are joined by colons, or none; the last two may be an address without V6 if end is set.
func parseGroups(s string, end bool) ([]uint16, bool) {
	if s == "" {
		return nil, true
	}
	var l []uint16
	parts := strings.Split(s, ":")
	for i, p := range parts {
		if end && i == len(parts)-1 && strings.Contains(p, ".") {
			n, ok := parse4(p)
			if !ok {
				return nil, false
			}
			return append(l, uint16(n>>16), uint16(n)), true
		}
		x, ok := parseGroup(p)
		if !ok {
			return nil, false
		}
		l = append(l, x)
	}
	return l, true
}

func parseGroup(s string) (uint16, bool) {
	if len(s) > 4 {
		return 0, false
	}
	x, err := strconv.ParseUint(s, 16, 16)
	return uint16(x), err == nil
}
