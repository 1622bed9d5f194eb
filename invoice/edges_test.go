package invoice

import (
	"testing"

	"exchangepoint/api"
)

func TestPercentOfManyIntervals(t *testing.T) {
	s := api.Series{Port: 1, Seconds: 1}
	for i := range 100 {
		s.In, s.Out = append(s.In, (100-i)*125000), append(s.Out, 0)
	}
	v, e := Make(member(1), 1, api.Tariff{Rate: 1}, []api.Series{s})
	if e != api.OK || v.Lines[0].Used != 95 || v.Total != 95 {
		t.Error("Make", v, e)
	}
}

func TestLimits(t *testing.T) {
	m := member(1, 2, 999, 4)
	m.ASN = api.MaxASN
	l := []api.Series{series(1, 1), series(2, 1), series(999, 1), series(4, 1)}
	v, e := Make(m, 100000, api.Tariff{}, l)
	if e != api.OK || len(v.Lines) != 4 || v.Lines[3].Port != 999 {
		t.Error("Make at the limits", v, e)
	}
	if got, e := Sum([]api.Invoice{v}); e != api.OK || got.Month != 100000 {
		t.Error("Sum at the limits", got, e)
	}
	v = version(1)
	for i := range 8 {
		v.Lines = append(v.Lines, api.Line{Port: i + 1, Used: -api.MaxMoney, Amount: api.MaxMoney})
		v.Total += api.MaxMoney
	}
	if got, e := Sum([]api.Invoice{v}); e != api.OK || got.Total != 8*api.MaxMoney {
		t.Error("Sum of great amounts", got, e)
	}
	v.Month = 1
	if _, e := Make(member(), 1, api.Tariff{}, nil); e != api.OK {
		t.Error("the first month", e)
	}
}
