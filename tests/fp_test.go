package tests

import (
	"math"
	"math/big"
	"testing"

	"envelope/fp"
)

func TestUpDown(t *testing.T) {
	for _, x := range []struct{ x, up, down float64 }{
		{1, 1 + 1.0/(1<<52), 1 - 1.0/(1<<53)},
		{0, least, -least}, {minus, least, -least},
		{least, 2 * least, 0}, {-least, 0, -2 * least},
		{most, inf, most - math.Ldexp(1, 971)}, {-most, math.Ldexp(1, 971) - most, -inf},
		{inf, inf, most}, {-inf, -most, -inf}, {nan, nan, nan},
	} {
		if up, down := fp.Up(x.x), fp.Down(x.x); !same(up, x.up) || !same(down, x.down) {
			t.Errorf("P101: %v: up %v, down %v", x.x, up, down)
		}
	}
	d := &dice{1}
	for range 5000 {
		x := math.Abs(d.real())
		if x == 0 {
			continue
		}
		if b := math.Float64bits(x); fp.Up(x) != math.Float64frombits(b+1) || fp.Down(x) != math.Float64frombits(b-1) || fp.Up(-x) != -fp.Down(x) || fp.Down(-x) != -fp.Up(x) {
			t.Fatalf("P101: beside %v", x)
		}
	}
}

func TestTwoSum(t *testing.T) {
	d := &dice{2}
	for range 5000 {
		a, b := d.any(), d.any()
		s, e := fp.TwoSum(a, b)
		v := s - a
		if want := (a - (s - v)) + (b - v); !same(s, a+b) || !same(e, want) {
			t.Fatalf("P101: %v and %v: %v, %v", a, b, s, e)
		}
		if fp.Finite(e) && exact(s, e).Cmp(exact(a, b)) != 0 {
			t.Fatalf("P102: %v and %v: %v, %v", a, b, s, e)
		}
	}
	if s, e := fp.TwoSum(most, most); !same(s, inf) || !same(e, nan) {
		t.Errorf("P101: of what is too great: %v, %v", s, e)
	}
}

// exact is a + b, not rounded.
func exact(a, b float64) *big.Rat {
	x, y := new(big.Rat), new(big.Rat)
	x.SetFloat64(a)
	y.SetFloat64(b)
	return x.Add(x, y)
}

func TestTwoMul(t *testing.T) {
	d := &dice{3}
	for range 5000 {
		a, b := d.real(), d.real()
		p, e := fp.TwoMul(a, b)
		rest := new(big.Rat).Mul(exact(a, 0), exact(b, 0))
		rest.Sub(rest, exact(p, 0))
		if want, _ := rest.Float64(); p != a*b || e != want {
			t.Fatalf("P101: %v times %v: %v, %v, not %v", a, b, p, e, want)
		}
	}
	for _, x := range [][4]float64{{1 + 1.0/(1<<30), 1 + 1.0/(1<<30), 1 + 1.0/(1<<29), 1.0 / (1 << 60)}, {most, 2, inf, -inf}, {inf, 1, inf, nan}, {inf, 0, nan, nan}, {nan, 1, nan, nan}, {least, 0.5, 0, 0}, {3 * least, 0.5, 2 * least, -0}} {
		if p, e := fp.TwoMul(x[0], x[1]); !same(p, x[2]) || !same(e, x[3]) {
			t.Errorf("P101: %v times %v: %v, %v", x[0], x[1], p, e)
		}
	}
}

func TestTwoExactly(t *testing.T) {
	d := &dice{4}
	whole := func() int { return (d.of(1<<30)<<23 + d.of(1<<23)) * (1 - 2*d.of(2)) >> d.of(53) }
	for range 5000 {
		a, b := whole(), whole()
		if s, e := fp.TwoSum(float64(a), float64(b)); int(s)+int(e) != a+b {
			t.Fatalf("P102: %d + %d: %v, %v", a, b, s, e)
		}
		p, e := fp.TwoMul(float64(a), float64(b))
		if product := new(big.Rat).SetInt(new(big.Int).Mul(big.NewInt(int64(a)), big.NewInt(int64(b)))); exact(p, e).Cmp(product) != 0 {
			t.Fatalf("P102: %d * %d: %v, %v", a, b, p, e)
		}
	}
}

func TestScale(t *testing.T) {
	d := &dice{5}
	for range 20000 {
		x, k := d.real(), d.of(4001)-2000
		f := new(big.Float).SetFloat64(x)
		if want, _ := f.SetMantExp(f, k).Float64(); fp.Scale(x, k) != want {
			t.Fatalf("P101: %v by %d: %v, not %v", x, k, fp.Scale(x, k), want)
		}
	}
	for m := range 64 { // what falls between the least numbers is rounded once, to even
		for k := -1085; k < -1070; k++ {
			f := new(big.Float).SetFloat64(float64(m))
			if want, _ := f.SetMantExp(f, k).Float64(); fp.Scale(float64(m), k) != want || fp.Scale(-float64(m), k) != -want {
				t.Fatalf("P101: %d by %d: %v, not %v", m, k, fp.Scale(float64(m), k), want)
			}
		}
	}
	for _, x := range []float64{0, minus, inf, -inf, nan} {
		for _, k := range []int{-2000, -1, 0, 1, 2000} {
			if !same(fp.Scale(x, k), x) {
				t.Errorf("P101: %v by %d: %v", x, k, fp.Scale(x, k))
			}
		}
	}
	for _, k := range []int{math.MinInt, -1 << 40, -2001, 2001, 1 << 40, math.MaxInt} {
		quiet(t, "Scale", func() { fp.Scale(3, k) })
	}
}

func TestFinite(t *testing.T) {
	for _, x := range odd {
		if want := !math.IsNaN(x) && !math.IsInf(x, 0); fp.Finite(x) != want {
			t.Errorf("P101: Finite of %v: %v", x, !want)
		}
	}
}
