// Package word reads the words that the texts of several layers share: names and numbers.
package word

import (
	"strconv"

	"exchangepoint/api"
)

// Name reports whether s is a name: letters, digits, minus signs and colons.
func Name(s string) bool {
	if s == "" || len(s) > api.MaxName {
		return false
	}
	for _, c := range []byte(s) {
		letter := c >= 'a' && c <= 'z' || c >= 'A' && c <= 'Z'
		if !letter && (c < '0' || c > '9') && c != '-' && c != ':' {
			return false
		}
	}
	return true
}

// Number reads a decimal number from 0 to most, without a sign and without leading zeros.
func Number(s string, most int) (int, bool) {
	n, err := strconv.Atoi(s)
	if err != nil || n < 0 || n > most || strconv.Itoa(n) != s {
		return 0, false
	}
	return n, true
}
