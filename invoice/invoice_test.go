package invoice

import (
	"reflect"
	"testing"

	"exchangepoint/api"
)

var tariff = api.Tariff{Base: 50000, Included: 100, Rate: 20}

func TestPrice(t *testing.T) {
	for _, x := range []struct {
		t    api.Tariff
		used int
		want int
		e    api.Errno
	}{
		{tariff, 130, 50600, 0}, {tariff, 100, 50000, 0}, {tariff, 101, 50020, 0}, {tariff, 0, 50000, 0}, {api.Tariff{}, 1 << 40, 0, 0}, {api.Tariff{Rate: 1 << 20}, 1 << 30, 1 << 50, 0}, {api.Tariff{Base: 1, Rate: 1 << 20}, 1 << 30, 0, api.ErrLimit}, {api.Tariff{Base: 1 << 40, Rate: 1 << 20}, 1 << 40, 0, api.ErrLimit},
		{api.Tariff{Base: -1}, -1, 0, api.ErrTariff}, {api.Tariff{Base: 1<<40 + 1}, 0, 0, api.ErrTariff}, {api.Tariff{Included: -1}, 0, 0, api.ErrTariff}, {api.Tariff{Included: 1<<20 + 1}, 0, 0, api.ErrTariff}, {api.Tariff{Rate: -1}, 0, 0, api.ErrTariff}, {api.Tariff{Rate: 1<<20 + 1}, 0, 0, api.ErrTariff}, {tariff, -1, 0, api.ErrArg}, {tariff, 1<<40 + 1, 0, api.ErrArg},
	} {
		if n, e := Price(x.t, x.used); n != x.want || e != x.e {
			t.Error("Price", x, n, e)
		}
	}
}

func member(ports ...int) api.Member {
	m := api.Member{ASN: 100}
	for _, p := range ports {
		m.Ports = append(m.Ports, api.Port{ID: p})
	}
	return m
}

// series returns a series of a port with the given Mbit/s.
func series(port, rate int) api.Series {
	return api.Series{Port: port, Seconds: 1, In: []int{rate * 125000}, Out: []int{0}}
}

func TestMake(t *testing.T) {
	empty := api.Series{Port: 3, Seconds: 1, In: []int{-1}, Out: []int{-1}}
	bad := api.Series{Port: 3}
	got, e := Make(member(9, 2), 7, tariff, []api.Series{series(2, 130), series(9, 5), series(2, 1000)})
	if e != api.OK || !reflect.DeepEqual(got, api.Invoice{Member: 100, Month: 7, Version: 1, Lines: []api.Line{{Port: 2, Used: 130, Amount: 50600}, {Port: 9, Used: 5, Amount: 50000}}, Total: 100600}) {
		t.Error("Make", got, e)
	}
	if got, e := Make(member(), 1, tariff, nil); e != api.OK || len(got.Lines) != 0 || got.Total != 0 || got.Version != 1 {
		t.Error("Make without ports", got, e)
	}
	wrong := api.Tariff{Base: -1}
	for name, x := range map[string]struct {
		m     api.Member
		month int
		t     api.Tariff
		l     []api.Series
		want  api.Errno
	}{
		"ASN": {api.Member{}, 1, wrong, nil, api.ErrArg}, "ASN great": {api.Member{ASN: 1 << 32}, 1, wrong, nil, api.ErrArg}, "month 0": {member(), 0, tariff, nil, api.ErrArg}, "month": {member(), 100001, tariff, nil, api.ErrArg}, "ports": {member(1, 2, 3, 4, 5), 1, tariff, nil, api.ErrArg}, "twice": {member(1, 1), 1, tariff, nil, api.ErrArg}, "ID 0": {member(0), 1, tariff, nil, api.ErrArg}, "ID": {member(1000), 1, tariff, nil, api.ErrArg},
		"tariff": {member(1), 1, wrong, nil, api.ErrTariff}, "no series": {member(3, 1), 1, tariff, []api.Series{empty}, api.ErrNone}, "gap": {member(3, 4), 1, tariff, []api.Series{empty}, api.ErrGap}, "series": {member(3), 1, tariff, []api.Series{bad, series(3, 1)}, api.ErrArg}, "price": {member(3), 1, api.Tariff{Base: 1 << 40, Rate: 1 << 20}, []api.Series{series(3, 1<<33)}, api.ErrLimit},
	} {
		if got, e := Make(x.m, x.month, x.t, x.l); e != x.want || !reflect.DeepEqual(got, api.Invoice{}) {
			t.Error("Make", name, e)
		}
	}
}

func version(n int, l ...api.Line) api.Invoice {
	v := api.Invoice{Member: 100, Month: 7, Version: n, Lines: l}
	for _, x := range l {
		v.Total += x.Amount
	}
	return v
}

func TestSum(t *testing.T) {
	got, e := Sum([]api.Invoice{version(1, api.Line{Port: 2, Used: 5, Amount: 50}, api.Line{Port: 9, Used: 1, Amount: 10}), version(2, api.Line{Port: 3, Used: 7, Amount: 70}, api.Line{Port: 9, Used: -1, Amount: -10})})
	if e != api.OK || !reflect.DeepEqual(got, version(2, api.Line{Port: 2, Used: 5, Amount: 50}, api.Line{Port: 3, Used: 7, Amount: 70}, api.Line{Port: 9})) {
		t.Error("Sum", got, e)
	}
	good := version(1, api.Line{Port: 2, Used: 5, Amount: 50})
	for name, change := range map[string]func(v *api.Invoice){
		"member": func(v *api.Invoice) { v.Member = 0 }, "month": func(v *api.Invoice) { v.Month = 0 }, "month great": func(v *api.Invoice) { v.Month = 100001 }, "version": func(v *api.Invoice) { v.Version = 0 }, "version great": func(v *api.Invoice) { v.Version = 1001 }, "total": func(v *api.Invoice) { v.Total++ }, "port": func(v *api.Invoice) { v.Lines = []api.Line{{}}; v.Total = 0 }, "port great": func(v *api.Invoice) { v.Lines = []api.Line{{Port: 1000}}; v.Total = 0 },
		"order": func(v *api.Invoice) { v.Lines = []api.Line{{Port: 2}, {Port: 2}}; v.Total = 0 }, "used": func(v *api.Invoice) { v.Lines = []api.Line{{Port: 2, Used: 1<<50 + 1}}; v.Total = 0 }, "used -": func(v *api.Invoice) { v.Lines = []api.Line{{Port: 2, Used: -1<<50 - 1}}; v.Total = 0 }, "amount": func(v *api.Invoice) { v.Lines = []api.Line{{Port: 2, Amount: 1<<50 + 1}}; v.Total = 1<<50 + 1 },
		"lines": func(v *api.Invoice) {
			v.Lines, v.Total = nil, 0
			for i := range 9 {
				v.Lines = append(v.Lines, api.Line{Port: i + 1})
			}
		},
	} {
		v := good
		change(&v)
		if got, e := Sum([]api.Invoice{good, v}); e != api.ErrArg || !reflect.DeepEqual(got, api.Invoice{}) {
			t.Error("Sum", name, e)
		}
	}
	other, month := version(2), version(2)
	other.Member, month.Month = 101, 8
	big := api.Line{Port: 2, Amount: 1 << 50}
	var many, wide []api.Invoice
	for i := range 1001 {
		many = append(many, version(min(i+1, 1000)))
	}
	for i := range 9 {
		wide = append(wide, version(i+1, api.Line{Port: i + 1}))
	}
	for name, x := range map[string]struct {
		l    []api.Invoice
		want api.Errno
	}{"nothing": {nil, api.ErrArg}, "many": {many, api.ErrArg}, "limit": {many[:1000], api.OK}, "first": {[]api.Invoice{version(2)}, api.ErrOrder}, "order": {[]api.Invoice{version(1), version(3)}, api.ErrOrder}, "other": {[]api.Invoice{good, other}, api.ErrOrder}, "month": {[]api.Invoice{good, month}, api.ErrOrder}, "amount": {[]api.Invoice{version(1, big), version(2, big)}, api.ErrLimit}, "lines": {wide, api.ErrLimit}} {
		if got, e := Sum(x.l); e != x.want || e != api.OK && !reflect.DeepEqual(got, api.Invoice{}) {
			t.Error("Sum", name, e)
		}
	}
}

func TestCorrect(t *testing.T) {
	l := []api.Series{series(2, 130), series(9, 5), series(3, 100)}
	first, _ := Make(member(9, 2), 7, tariff, l)
	if got, e := Correct([]api.Invoice{first}, member(9, 2), tariff, l); e != api.ErrNone || !reflect.DeepEqual(got, api.Invoice{}) {
		t.Error("Correct with the same series", got, e)
	}
	second, e := Correct([]api.Invoice{first}, member(2, 3), tariff, []api.Series{series(2, 131), series(3, 100)})
	if e != api.OK || !reflect.DeepEqual(second, version(2, api.Line{Port: 2, Used: 1, Amount: 20}, api.Line{Port: 3, Used: 100, Amount: 50000}, api.Line{Port: 9, Used: -5, Amount: -50000})) {
		t.Error("Correct", second, e)
	}
	sum, _ := Sum([]api.Invoice{first, second})
	if !reflect.DeepEqual(sum, version(2, api.Line{Port: 2, Used: 131, Amount: 50620}, api.Line{Port: 3, Used: 100, Amount: 50000}, api.Line{Port: 9})) {
		t.Error("Sum of Correct", sum)
	}
	used, e := Correct([]api.Invoice{first}, member(9, 2), tariff, []api.Series{series(2, 130), series(9, 6)})
	if e != api.OK || !reflect.DeepEqual(used, version(2, api.Line{Port: 9, Used: 1})) {
		t.Error("Correct of what is used alone", used, e)
	}
	var many []api.Invoice
	for i := range 1000 {
		many = append(many, version(i+1))
	}
	low := version(1, api.Line{Port: 2, Amount: -1 << 50})
	other := member(2)
	other.ASN = 101
	for name, x := range map[string]struct {
		old  []api.Invoice
		m    api.Member
		l    []api.Series
		want api.Errno
	}{"sum": {nil, other, nil, api.ErrArg}, "order": {[]api.Invoice{version(2)}, other, nil, api.ErrOrder}, "member": {[]api.Invoice{first}, other, nil, api.ErrMember}, "make": {[]api.Invoice{first}, member(2), nil, api.ErrNone}, "version 1001": {many, member(2), l, api.ErrLimit}, "amount": {[]api.Invoice{low}, member(2), l, api.ErrLimit}} {
		if got, e := Correct(x.old, x.m, tariff, x.l); e != x.want || !reflect.DeepEqual(got, api.Invoice{}) {
			t.Error("Correct", name, e)
		}
	}
}
