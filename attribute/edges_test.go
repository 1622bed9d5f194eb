package attribute

import (
	"reflect"
	"testing"

	"exchangepoint/api"
)

func TestLimits(t *testing.T) {
	a := full()
	a.Pref, a.OTC = 1<<32-1, api.MaxASN
	a.Other = nil
	for i := range api.MaxOther {
		a.Other = append(a.Other, api.Unknown{Flags: 224, Type: 248 + i, Data: make([]byte, 200)})
	}
	a.Other[0].Data = make([]byte, 255)
	l, e := Write(a)
	if !Valid(a) || e != api.OK {
		t.Fatal("attributes at the limits", e)
	}
	b, e := Join(l)
	m, e2 := Split(b)
	back, e3 := Read(m)
	if e != api.OK || e2 != api.OK || e3 != api.OK || !reflect.DeepEqual(a, back) {
		t.Error("Read of Split of Join of Write", e, e2, e3)
	}
	a = Empty()
	a.OTC = 1
	if !Valid(a) {
		t.Error("OTC 1")
	}
}
