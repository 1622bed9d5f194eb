package same

import (
	"reflect"
	"testing"

	"exchangepoint/api"
)

// differ changes each field of a value in turn, and returns the results.
func differ[T any](x T, other func(field reflect.Value)) []T {
	var out []T
	for i := range reflect.TypeOf(x).NumField() {
		y := reflect.New(reflect.TypeOf(x)).Elem()
		y.Set(reflect.ValueOf(x))
		other(y.Field(i))
		out = append(out, y.Interface().(T))
	}
	return out
}

// other gives a field another value.
func other(v reflect.Value) {
	switch v.Kind() {
	case reflect.Int:
		v.SetInt(v.Int() + 1)
	case reflect.Bool:
		v.SetBool(!v.Bool())
	case reflect.Slice:
		v.Set(reflect.Append(v, reflect.Zero(v.Type().Elem())))
	case reflect.Struct:
		other(v.Field(0))
	}
}

func check[T any](t *testing.T, x T, equal func(a, b T) bool) {
	t.Helper()
	if !equal(x, x) {
		t.Errorf("%T is not equal to itself", x)
	}
	for i, y := range differ(x, other) {
		if equal(x, y) || equal(y, x) {
			t.Errorf("%T with another %s", x, reflect.TypeOf(x).Field(i).Name)
		}
	}
}

func TestSame(t *testing.T) {
	check(t, api.Rule{}, Rule)
	check(t, api.Attrs{}, Attrs)
	check(t, api.Route{}, Route)
	check(t, api.Step{}, Step)
	check(t, api.Invoice{}, Invoice)
	check(t, api.Segment{}, segment)
	check(t, api.Unknown{}, unknown)
	if !Attrs(api.Attrs{}, api.Attrs{Path: []api.Segment{}, Communities: []api.Community{}, Large: []api.Large{}, Other: []api.Unknown{}}) {
		t.Error("nil and empty slices")
	}
	a := []api.Route{{From: 1}, {From: 2}}
	if !Routes(a, a) || Routes(a, a[:1]) || Routes(a[:1], a[1:]) || !Routes(nil, []api.Route{}) {
		t.Error("Routes")
	}
}
