package purity

import (
	"math/rand"
	"reflect"
	"slices"
	"testing"
	"time"

	"exchangepoint/api"
)

const rounds = 400 // calls of each function

type maker struct {
	r     *rand.Rand
	seeds map[reflect.Type][]reflect.Value
}

// number returns a number at or near a limit, or a small one.
func (m maker) number() int64 {
	l := []int64{0, 1, 2, 3, 4, 5, 7, 8, 9, 24, 32, 60, 64, 100, 128, 200, 255, 256, 300, 512, 999, 1000, 1500, 4095, 4096, 64496, 65535, 65536, 86400, 1 << 20, 1 << 30, 1<<32 - 1, 1 << 32, 1 << 40, 1 << 50, 1<<63 - 1, -1 << 63, -1 << 32}
	switch m.r.Intn(3) {
	case 0:
		return l[m.r.Intn(len(l))] + int64(m.r.Intn(3)) - 1
	case 1:
		return int64(m.r.Intn(12)) - 1
	}
	return l[m.r.Intn(len(l))]
}

// make returns a value of a type: a valid one, a changed one, or anything.
func (m maker) make(t reflect.Type, depth int) reflect.Value {
	if l := m.seeds[t]; len(l) > 0 && m.r.Intn(4) != 0 {
		v := clone(l[m.r.Intn(len(l))])
		if m.r.Intn(2) == 0 {
			m.change(v, depth)
		}
		return v
	}
	v := reflect.New(t).Elem()
	switch t.Kind() {
	case reflect.Int, reflect.Int64:
		v.SetInt(m.number())
	case reflect.Uint8, reflect.Uint16, reflect.Uint64:
		v.SetUint(uint64(m.number()) & (1<<t.Bits() - 1))
	case reflect.Bool:
		v.SetBool(m.r.Intn(2) == 0)
	case reflect.String:
		b := make([]byte, m.r.Intn(6))
		for i := range b {
			b[i] = " 0123456789abf:./{},|*+?()-\n"[m.r.Intn(28)]
		}
		v.SetString(string(b))
	case reflect.Array:
		for i := range t.Len() {
			v.Index(i).Set(m.make(t.Elem(), depth+1))
		}
	case reflect.Struct:
		for i := range t.NumField() {
			v.Field(i).Set(m.make(t.Field(i).Type, depth+1))
		}
	case reflect.Slice:
		for range m.r.Intn(max(1, 5-depth)) {
			v = reflect.Append(v, m.make(t.Elem(), depth+1))
		}
		// Room behind the end, so that an append to an argument is seen as shared memory.
		if v.Len() > 0 {
			v = reflect.Append(v, reflect.Zero(t.Elem())).Slice(0, v.Len())
		}
	default:
		panic("a kind without values: " + t.String())
	}
	return v
}

// change changes one part of a value.
func (m maker) change(v reflect.Value, depth int) {
	switch v.Kind() {
	case reflect.Struct:
		m.change(v.Field(m.r.Intn(v.NumField())), depth+1)
	case reflect.Slice:
		switch n := v.Len(); {
		case n == 0 || m.r.Intn(5) == 0:
			v.Set(reflect.Append(v, m.make(v.Type().Elem(), depth+1)))
		case m.r.Intn(5) == 0:
			v.Set(v.Slice(0, m.r.Intn(n)))
		default:
			m.change(v.Index(m.r.Intn(n)), depth+1)
		}
	case reflect.String:
		s := []byte(v.String())
		if len(s) > 0 {
			s[m.r.Intn(len(s))] = byte(m.r.Intn(128))
		}
		v.SetString(string(s))
	default:
		w := reflect.New(v.Type()).Elem()
		w.Set(maker{r: m.r}.make(v.Type(), depth))
		v.Set(w)
	}
}

// clone returns a copy that can be set and shares no memory.
func clone(v reflect.Value) reflect.Value {
	out := reflect.New(v.Type()).Elem()
	switch v.Kind() {
	case reflect.Struct:
		for i := range v.NumField() {
			out.Field(i).Set(clone(v.Field(i)))
		}
	case reflect.Slice:
		if v.Len() == 0 {
			return out
		}
		out.Set(reflect.MakeSlice(v.Type(), v.Len(), v.Len()+1))
		for i := range v.Len() {
			out.Index(i).Set(clone(v.Index(i)))
		}
	default:
		out.Set(v)
	}
	return out
}

// block is the memory of a slice.
type block struct{ from, to uintptr }

func blocks(v reflect.Value, out []block) []block {
	switch v.Kind() {
	case reflect.Struct:
		for i := range v.NumField() {
			out = blocks(v.Field(i), out)
		}
	case reflect.Array:
		for i := range v.Len() {
			out = blocks(v.Index(i), out)
		}
	case reflect.Slice:
		size := v.Type().Elem().Size()
		if v.Cap() > 0 && size > 0 {
			out = append(out, block{v.Pointer(), v.Pointer() + uintptr(v.Len())*size})
		}
		for i := range v.Len() {
			out = blocks(v.Index(i), out)
		}
	}
	return out
}

// shared reports whether two of the blocks of results overlap, or one of them with one of arguments.
func shared(args, results []block) bool {
	type mark struct {
		block
		result bool
	}
	var l []mark
	for _, b := range args {
		l = append(l, mark{b, false})
	}
	for _, b := range results {
		l = append(l, mark{b, true})
	}
	slices.SortFunc(l, func(a, b mark) int { return int(a.from) - int(b.from) })
	for i := 1; i < len(l); i++ {
		if l[i].from < l[i-1].to && l[i].to > l[i].from && (l[i].result || l[i-1].result) {
			return true
		}
	}
	return false
}

func all(l []reflect.Value) []block {
	var out []block
	for _, v := range l {
		out = blocks(v, out)
	}
	return out
}

func same(a, b []reflect.Value) bool {
	for i := range a {
		if !reflect.DeepEqual(a[i].Interface(), b[i].Interface()) {
			return false
		}
	}
	return true
}

func zero(v reflect.Value) bool {
	return v.IsZero() || v.Kind() == reflect.Slice && v.Len() == 0
}

// meaningful names the functions whose results matter together with an error or with false.
func meaningful(name string) bool {
	return slices.Contains([]string{"packet.Hop", "meter.Take", "update.Decode", "update.Ends", "ribin.Apply", "replica.Replay", "drain.Fits", "world.Step"}, name)
}

func try(t *testing.T, c call, args []reflect.Value) (out []reflect.Value) {
	defer func() {
		if r := recover(); r != nil {
			t.Fatalf("%s panics: %v\n%+v", c.name, r, args)
		}
	}()
	return reflect.ValueOf(c.f).Call(args)
}

func check(t *testing.T, c call, args []reflect.Value) bool {
	before := make([]reflect.Value, len(args))
	for i, a := range args {
		before[i] = clone(a)
	}
	// Copies have no nil slices in other places than what is called with.
	first := make([]reflect.Value, len(args))
	for i, a := range before {
		first[i] = clone(a)
	}
	out := try(t, c, first)
	again := try(t, c, before)
	if !same(out, again) {
		t.Fatalf("%s has two results: %+v\n%+v\n%+v", c.name, args, out, again)
	}
	if !same(first, before) || !same(first, cloned(args)) {
		t.Fatalf("%s has changed an argument: %+v", c.name, args)
	}
	if shared(all(first), all(out)) {
		t.Fatalf("%s shares memory: %+v\n%+v", c.name, args, out)
	}
	last := out[len(out)-1]
	e, ok := last.Interface().(api.Errno)
	failed := ok && e != api.OK || last.Kind() == reflect.Bool && !last.Bool()
	if failed && !meaningful(c.name) {
		for _, v := range out[:len(out)-1] {
			if !zero(v) {
				t.Fatalf("%s: %+v with an error or false: %+v", c.name, v, args)
			}
		}
	}
	return !failed
}

func cloned(l []reflect.Value) []reflect.Value {
	var out []reflect.Value
	for _, v := range l {
		out = append(out, clone(v))
	}
	return out
}

func TestPurity(t *testing.T) {
	m := maker{r: rand.New(rand.NewSource(1)), seeds: seeds()}
	for _, c := range calls() {
		start := time.Now()
		f := reflect.TypeOf(c.f)
		fine := 0
		for range rounds {
			var args []reflect.Value
			for i := range f.NumIn() {
				args = append(args, m.make(f.In(i), 0))
			}
			if check(t, c, args) {
				fine++
			}
		}
		if d := time.Since(start); d > 20*time.Second {
			t.Error(c.name, "took", d)
		}
		if testing.Verbose() {
			t.Log(c.name, fine, "of", rounds, time.Since(start))
		}
	}
}
