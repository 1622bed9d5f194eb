package forward

import (
	"reflect"
	"slices"
	"testing"

	"exchangepoint/addr"
	"exchangepoint/api"
	"exchangepoint/arp"
	"exchangepoint/compile"
	"exchangepoint/ether"
	"exchangepoint/member"
	"exchangepoint/meter"
)

func TestHash(t *testing.T) {
	if h := Hash(api.MAC{1, 0, 0, 0, 0, 2}, api.MAC{3, 0, 0, 0, 0, 4}); h != 1+12+21+48 {
		t.Error("Hash", h)
	}
	if h := Hash(ether.Broadcast(), ether.Broadcast()); h != 78*255%65521 {
		t.Error("Hash", h)
	}
}

// square has two links between 0 and 1, and one on each other side.
func square() api.Fabric {
	return api.Fabric{Switches: 5, Links: []api.Link{{A: 0, B: 1, Capacity: 1}, {A: 1, B: 0, Capacity: 1}, {A: 1, B: 2, Capacity: 1}, {A: 2, B: 3, Capacity: 1}, {A: 3, B: 0, Capacity: 1}}, Down: make([]bool, 5), Dead: make([]bool, 5)}
}

func TestWay(t *testing.T) {
	f := square()
	for _, x := range []struct {
		from, to, hash int
		want           []int
		ok             bool
	}{
		{0, 1, 0, []int{0}, true}, {0, 1, 1, []int{1}, true}, {0, 1, 2, []int{0}, true}, {0, 2, 0, []int{0, 2}, true}, {0, 2, 1, []int{1, 2}, true}, {0, 2, 2, []int{4, 3}, true},
		{2, 0, 1, []int{3, 4}, true}, {2, 0, 2, []int{2, 0}, true}, {3, 3, 5, nil, true}, {0, 4, 0, nil, false}, {4, 0, 0, nil, false}, {0, 5, 0, nil, false}, {-1, 0, 0, nil, false}, {5, 0, 0, nil, false},
	} {
		if w, ok := Way(f, x.from, x.to, x.hash); ok != x.ok || !slices.Equal(w, x.want) {
			t.Error("Way", x.from, x.to, x.hash, w, ok)
		}
	}
	f.Down[0] = true
	f.Dead[3] = true
	if w, ok := Way(f, 0, 2, 2); !ok || !slices.Equal(w, []int{1, 2}) {
		t.Error("Way after failures", w, ok)
	}
	if w, ok := Way(f, 3, 3, 0); ok || len(w) != 0 {
		t.Error("Way at a dead switch", w, ok)
	}
}

const text = `lan 192.0.2.0/24 2001:db8::/64
member 64500 a - 10 20
port 1 0 1 02:00:00:00:00:01 192.0.2.1 -
port 2 2 1 02:00:00:00:00:02 192.0.2.2 -
member 64501 b - 10 20
port 3 0 1 02:00:00:00:00:03 192.0.2.3 -
`

func TestSend(t *testing.T) {
	d, e := member.Parse(text)
	if e != api.OK {
		t.Fatal(e)
	}
	rules, _ := compile.Rules(d, 1, 2)
	bound := compile.Bindings(d)
	f := square()
	mac := func(n byte) api.MAC { return api.MAC{2, 0, 0, 0, 0, n} }
	at := func(s string) api.Addr { a, _ := addr.Parse(s); return a }
	ask := func(from, to string) api.Frame {
		b, _ := arp.Encode(arp.Request(mac(1), at(from), at(to)))
		return api.Frame{Dst: ether.Broadcast(), Src: mac(1), Type: api.TypeARP, Data: b}
	}
	plain := api.Frame{Dst: mac(2), Src: mac(1), Type: api.TypeIPv4, Data: []byte{1}}
	way, _ := Way(f, 0, 2, Hash(mac(1), mac(2)))
	full := meter.New(1, 2)
	one := api.Bucket{Level: 1, Rate: 1, Burst: 2}
	none := api.Bucket{Rate: 1, Burst: 2}
	asked := ask("192.0.2.1", "192.0.2.2")
	asked.Dst = mac(2)
	near := plain
	near.Dst = mac(3)
	lost := plain
	lost.Dst = mac(9)
	dead := square()
	dead.Dead[2] = true
	for name, x := range map[string]struct {
		f       api.Fabric
		port    int
		x       api.Frame
		budget  api.Bucket
		want    api.Delivery
		after   api.Bucket
		verdict int
	}{
		"plain":           {f, 1, plain, none, api.Delivery{Port: 2, Links: way, Frame: plain}, none, api.Pass},
		"same switch":     {f, 1, near, full, api.Delivery{Port: 3, Frame: near}, full, api.Pass},
		"request":         {f, 1, ask("192.0.2.1", "192.0.2.2"), full, api.Delivery{Port: 2, Links: way, Frame: asked}, one, api.Pass},
		"no port":         {f, 9, plain, full, api.Delivery{}, full, api.DropSource},
		"impersonation":   {f, 1, ask("192.0.2.2", "192.0.2.3"), full, api.Delivery{}, full, api.DropSender},
		"another's port":  {f, 2, plain, full, api.Delivery{}, full, api.DropSource},
		"no budget":       {f, 1, ask("192.0.2.1", "192.0.2.2"), none, api.Delivery{}, none, api.DropRate},
		"nobody":          {f, 1, ask("192.0.2.1", "192.0.2.9"), full, api.Delivery{}, one, api.DropUnknown},
		"nobody's":        {f, 1, lost, full, api.Delivery{}, full, api.DropUnknown},
		"no way":          {dead, 1, plain, full, api.Delivery{}, full, api.DropDown},
		"request, no way": {dead, 1, ask("192.0.2.1", "192.0.2.2"), full, api.Delivery{}, one, api.DropDown},
	} {
		got, after, v := Send(rules, bound, d.LAN4, d.LAN6, x.f, x.budget, x.port, x.x)
		if !reflect.DeepEqual(got, x.want) || after != x.after || v != x.verdict {
			t.Error("Send", name, got, after, v)
		}
	}
}

func TestLoads(t *testing.T) {
	f := square()
	if l := Loads(f, [][]int{{0, 2}, {2, 7, -1, 2}, {4}}, []int{5, 3}); !slices.Equal(l, []int{5, 0, 8, 0, 0}) {
		t.Error("Loads", l)
	}
	if l := Loads(f, nil, []int{1}); !slices.Equal(l, make([]int, 5)) {
		t.Error("Loads of nothing", l)
	}
}
