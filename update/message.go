// Package update is layer 19: messages byte by byte. See doc/19-update.md.
package update

import (
	"bytes"

	"exchangepoint/api"
)

const (
	marker = 16
	head   = 19
	// mostBody is how many bytes the body of a message has at the most.
	mostBody = api.MaxMessage - head
)

// Frame returns the bytes of a message.
func Frame(m api.Message) ([]byte, api.Errno) {
	if !knownType(m.Type) {
		return nil, api.ErrArg
	}
	if len(m.Body) > mostBody {
		return nil, api.ErrLimit
	}
	b := bytes.Repeat([]byte{255}, marker)
	b = append(appendLength(b, head+len(m.Body)), byte(m.Type))
	return append(b, m.Body...), api.OK
}

func knownType(n int) bool {
	return n >= api.MsgOpen && n <= api.MsgRefresh
}

func appendLength(b []byte, n int) []byte {
	return append(b, byte(n>>8), byte(n))
}

// Parse reads the message at the beginning of b.
func Parse(b []byte) (api.Message, int, api.Errno) {
	for _, c := range b[:min(len(b), marker)] {
		if c != 255 {
			return api.Message{}, 0, api.ErrReset
		}
	}
	if len(b) < head {
		return api.Message{}, 0, api.ErrShort
	}
	n, kind := int(b[marker])<<8|int(b[marker+1]), int(b[marker+2])
	if n < head || n > api.MaxMessage || !knownType(kind) {
		return api.Message{}, 0, api.ErrReset
	}
	if len(b) < n {
		return api.Message{}, 0, api.ErrShort
	}
	return api.Message{Type: kind, Body: bytes.Clone(b[head:n])}, n, api.OK
}
