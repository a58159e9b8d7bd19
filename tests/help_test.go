// Package tests: tests of all layers, by their faces. This file holds what they share.
package tests

import (
	"fmt"
	"math"
	"reflect"
	"strings"
	"testing"
)

var (
	inf   = math.Inf(1)
	nan   = math.NaN()
	most  = math.MaxFloat64
	least = math.SmallestNonzeroFloat64
	minus = math.Copysign(0, -1)
)

// odd are numbers at which rules break.
var odd = []float64{0, minus, 1, -1, 0.5, -2, 3, least, -least, most, -most, inf, -inf, nan, 1e300, -1e-300, 512, 1 << 53}

// dice throws the same numbers each time.
type dice struct{ n uint64 }

func (d *dice) of(k int) int {
	d.n = d.n*6364136223846793005 + 1442695040888963407
	return int(d.n>>33) % k
}

// real is some finite number, mostly of middling size.
func (d *dice) real() float64 {
	x := math.Ldexp(float64(d.of(1<<30)-1<<29), d.of(40)-45)
	switch d.of(12) {
	case 0:
		return 0
	case 1:
		return float64(d.of(9) - 4)
	case 2:
		return math.Ldexp(x, d.of(400)-200)
	}
	return x
}

// small is some number from -2 to 2.
func (d *dice) small() float64 { return float64(d.of(1<<26)-1<<25) / (1 << 24) }

// any is some number, or what is none.
func (d *dice) any() float64 {
	if d.of(3) == 0 {
		return odd[d.of(len(odd))]
	}
	return d.real()
}

// reals is n numbers by f.
func reals(n int, f func() float64) []float64 {
	x := make([]float64, n)
	for i := range x {
		x[i] = f()
	}
	return x
}

// same tells whether two numbers are (W2).
func same(a, b float64) bool { return a == b || a != a && b != b }

func sameRow(a, b []float64) bool {
	if len(a) != len(b) {
		return false
	}
	for i := range a {
		if !same(a[i], b[i]) {
			return false
		}
	}
	return true
}

func sameRows(a, b [][]float64) bool {
	if len(a) != len(b) {
		return false
	}
	for i := range a {
		if !sameRow(a[i], b[i]) {
			return false
		}
	}
	return true
}

// quiet runs f, and tells of a panic (P1).
func quiet(t *testing.T, name string, f func()) {
	t.Helper()
	defer func() {
		if r := recover(); r != nil {
			t.Errorf("P1: %s: %v", name, r)
		}
	}()
	f()
}

// roomy copies x, with spare room behind each list.
func roomy[T any](x T) T { return room(reflect.ValueOf(&x).Elem()).Interface().(T) }

func room(v reflect.Value) reflect.Value {
	switch v.Kind() {
	case reflect.Slice:
		n := v.Len()
		out := reflect.MakeSlice(v.Type(), n+2, n+2)
		for i := range n {
			out.Index(i).Set(room(v.Index(i)))
		}
		out.Index(n).Set(junk(v.Type().Elem()))
		out.Index(n + 1).Set(junk(v.Type().Elem()))
		return out.Slice(0, n)
	case reflect.Struct:
		out := reflect.New(v.Type()).Elem()
		for i := range v.NumField() {
			out.Field(i).Set(room(v.Field(i)))
		}
		return out
	}
	return v
}

func junk(t reflect.Type) reflect.Value {
	v := reflect.New(t).Elem()
	switch t.Kind() {
	case reflect.Float64:
		v.SetFloat(7.5)
	case reflect.Int:
		v.SetInt(77)
	case reflect.Slice:
		v.Set(reflect.Append(v, junk(t.Elem())))
	}
	return v
}

// shown is a value as a text; with what lies in its spare room, if that is asked for.
func shown(x any, spare bool) string {
	var b strings.Builder
	show(&b, reflect.ValueOf(x), spare)
	return b.String()
}

func show(b *strings.Builder, v reflect.Value, spare bool) {
	switch v.Kind() {
	case reflect.Slice:
		n := v.Len()
		if spare {
			v = v.Slice(0, v.Cap())
		}
		fmt.Fprintf(b, "%d[", n)
		for i := range v.Len() {
			show(b, v.Index(i), spare)
		}
		b.WriteString("]")
	case reflect.Array:
		for i := range v.Len() {
			show(b, v.Index(i), spare)
		}
	case reflect.Struct:
		b.WriteString("{")
		for i := range v.NumField() {
			show(b, v.Field(i), spare)
		}
		b.WriteString("}")
	case reflect.Float64:
		x := v.Float()
		if x == 0 {
			x = 0
		}
		fmt.Fprintf(b, "%b ", x)
	default:
		fmt.Fprintf(b, "%v ", v)
	}
}

// span is the memory of one list, its spare room too.
type span struct{ from, to uintptr }

func spans(v reflect.Value) []span {
	var out []span
	switch v.Kind() {
	case reflect.Slice:
		if v.Cap() > 0 && v.Type().Elem().Size() > 0 {
			out = append(out, span{v.Pointer(), v.Pointer() + uintptr(v.Cap())*v.Type().Elem().Size()})
		}
		for i := range v.Len() {
			out = append(out, spans(v.Index(i))...)
		}
	case reflect.Struct:
		for i := range v.NumField() {
			out = append(out, spans(v.Field(i))...)
		}
	}
	return out
}

// pure holds a call to P1, P2 and P3: what was handed in stays, what it answers is new, and twice the same.
func pure(t *testing.T, name string, handed []any, call func() []any) {
	t.Helper()
	before := shown(handed, true)
	var first, again []any
	quiet(t, name, func() { first = call() })
	quiet(t, name, func() { again = call() })
	if shown(handed, true) != before {
		t.Errorf("P2: %s: changed what was handed in", name)
	}
	if shown(first, false) != shown(again, false) {
		t.Errorf("P3: %s: answers otherwise the second time", name)
	}
	given, told := listsOf(handed), append(listsOf(first), listsOf(again)...)
	for i, a := range told {
		for _, b := range append(given, told[i+1:]...) {
			if a.from < b.to && b.from < a.to {
				t.Fatalf("P2: %s: lists share memory", name)
			}
		}
	}
}

func listsOf(xs []any) []span {
	var out []span
	for _, x := range xs {
		out = append(out, spans(reflect.ValueOf(x))...)
	}
	return out
}
