package filter

import (
	"slices"
	"testing"

	"exchangepoint/api"
)

func TestLimits(t *testing.T) {
	low := base()
	low.Min4, low.Max4, low.Min6, low.Max6, low.Hole4, low.Hole6, low.Hops = 0, 0, 0, 0, 0, 0, 1
	high := base()
	high.Own, high.Min4, high.Max4, high.Min6, high.Max6, high.Hole4, high.Hole6 = api.MaxASN, 32, 32, 128, 128, 32, 128
	high.Private, high.Free = []api.Span{{From: 0, To: 0}, {From: api.MaxASN, To: api.MaxASN}}, []int{1, api.MaxASN}
	if !Valid(low) || !Valid(high) {
		t.Error("filters at the limits")
	}
	nine := base()
	nine.LANs = append(slices.Repeat(nine.LANs, 4), nine.LANs[0])
	if Valid(nine) {
		t.Error("nine LANs")
	}
	if !ValidPeer(api.Peer{ASN: 1}) || !ValidPeer(api.Peer{ASN: api.MaxASN}) {
		t.Error("peers at the limits")
	}
	p := peer()
	p.Nexts = append(slices.Repeat(p.Nexts, 4), p.Nexts[0])
	if ValidPeer(p) {
		t.Error("nine addresses")
	}
	f := base()
	f.Hops = 2
	if n := Check(f, peer(), route("11.0.0.0/24", 100, 200)); n != api.Accepted {
		t.Error("as many hops as permitted", n)
	}
	f.Min4, f.Max4, f.Registry.Objects[0].Max = 24, 24, 24
	if n := Check(f, peer(), route("11.0.0.0/24", 100)); n != api.Accepted {
		t.Error("the one permitted length", n)
	}
	f.Hole4 = 24
	if n := Check(f, peer(), hole(route("11.0.0.0/24", 100))); n != api.Accepted {
		t.Error("the shortest request", n)
	}
}
