// Package arith: what several layers reckon alike, whatever kind of numbers they reckon with.
package arith

import (
	"math"

	"envelope/api"
	"envelope/iv"
)

// mostStep is how many ticks a step has at most.
const mostStep = 1 << 42

// Kind is a kind of numbers: how one is made of a float64, and its four operations.
type Kind[T any] struct {
	Of                 func(c float64) T
	Add, Sub, Mul, Div func(a, b T) T
}

// Floats are the numbers of the machine. Products are rounded by name: else one may be fused with a sum.
func Floats() Kind[float64] {
	return Kind[float64]{
		Of:  func(c float64) float64 { return c },
		Add: func(a, b float64) float64 { return float64(a + b) },
		Sub: func(a, b float64) float64 { return float64(a - b) },
		Mul: func(a, b float64) float64 { return float64(a * b) },
		Div: func(a, b float64) float64 { return float64(a / b) },
	}
}

// Ivs are the numbers of chapter 2.
func Ivs() Kind[api.Iv] {
	return Kind[api.Iv]{Of: Point, Add: iv.Add, Sub: iv.Sub, Mul: iv.Mul, Div: iv.Div}
}

// Point tells the Iv of c alone.
func Point(c float64) api.Iv { return api.Iv{Lo: c, Hi: c} }

// Run tells what t's outputs are at x. It holds for tapes that tape.Check takes, with x as long as N.
func (k Kind[T]) Run(t api.Tape, x []T) []T {
	r := make([]T, len(t.Ops))
	for i, o := range t.Ops {
		r[i] = k.operation(o, x, r)
	}
	out := make([]T, len(t.Out))
	for i, n := range t.Out {
		out[i] = r[n]
	}
	return out
}

func (k Kind[T]) operation(o api.Op, x, r []T) T {
	switch o.Kind {
	case api.OConst:
		return k.Of(o.C)
	case api.OVar:
		return x[o.A]
	case api.OAdd:
		return k.Add(r[o.A], r[o.B])
	case api.OSub:
		return k.Sub(r[o.A], r[o.B])
	case api.OMul:
		return k.Mul(r[o.A], r[o.B])
	}
	return k.Div(r[o.A], r[o.B])
}

// Along tells at s the polynomial whose numbers are column i of z: one row at least, the power 0 first.
func (k Kind[T]) Along(z [][]float64, i int, s T) T {
	v := k.Of(z[len(z)-1][i])
	for j := len(z) - 2; j >= 0; j-- {
		v = k.Add(k.Mul(v, s), k.Of(z[j][i]))
	}
	return v
}

// Even tells whether each row has n.
func Even[T any](rows [][]T, n int) bool {
	for _, r := range rows {
		if len(r) != n {
			return false
		}
	}
	return true
}

// Greatest tells the greatest of n numbers: it begins with the first one; another one is it, if it is greater. Of none it is 0.
func Greatest(n int, of func(i int) float64) float64 {
	if n < 1 {
		return 0
	}
	g := of(0)
	for i := 1; i < n; i++ {
		if x := of(i); x > g {
			g = x
		}
	}
	return g
}

// Worst tells the greatest likewise; +Inf, if one is NaN: what is no number may be as great as any.
func Worst(n int, of func(i int) float64) float64 {
	none := false
	g := Greatest(n, func(i int) float64 {
		x := of(i)
		none = none || x != x
		return x
	})
	if none {
		return math.Inf(1)
	}
	return g
}

// PowerOfTwo tells whether n is one, from 1 to most.
func PowerOfTwo(n, most int) bool { return 1 <= n && n <= most && n&(n-1) == 0 }

// IsStep tells whether a step may be of so many ticks.
func IsStep(ticks int) bool { return PowerOfTwo(ticks, mostStep) }

// Length tells how long so many ticks are: exactly, of a power of two.
func Length(ticks int) float64 { return float64(ticks) / api.Ticks }
