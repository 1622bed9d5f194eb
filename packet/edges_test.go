package packet

import (
	"bytes"
	"testing"

	"exchangepoint/addr"
	"exchangepoint/api"
)

func TestExactBytes(t *testing.T) {
	for _, p := range []api.Packet{{Src: four1, Dst: four2, Proto: 17, TTL: 64}, {Src: six1, Dst: six2, Proto: 17, TTL: 64}, {Src: four1, Dst: four2, Proto: 17, TTL: 64, Data: make([]byte, 300)}, {Src: six1, Dst: six2, Proto: 17, TTL: 64, Data: make([]byte, 300)}} {
		b, _ := Encode(p)
		q, e := Decode(b)
		if e != api.OK || q.Src != p.Src || q.Dst != p.Dst || q.Proto != 17 || q.TTL != 64 || !bytes.Equal(q.Data, p.Data) {
			t.Error("Decode of exact bytes", q, e)
		}
	}
	data := make([]byte, 70000)
	b := append(append(addr.Bytes(six1), addr.Bytes(six2)...), 0, 1, 0x11, 0x70, 0, 0, 0, 58)
	if Check(six1, six2, 58, data) != Sum(append(b, data...)) {
		t.Error("Check of many bytes")
	}
}
