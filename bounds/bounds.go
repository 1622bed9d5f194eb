// Package bounds says between which bounds numbers lie that several layers share.
package bounds

import "exchangepoint/api"

// Within reports whether n is from least to most.
func Within(n, least, most int) bool {
	return n >= least && n <= most
}

// ASN reports whether n is the number of an AS.
func ASN(n int) bool {
	return Within(n, 1, api.MaxASN)
}

// Width returns the number of bits of an address.
func Width(a api.Addr) int {
	if a.V6 {
		return 128
	}
	return 32
}
