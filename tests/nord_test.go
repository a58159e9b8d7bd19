package tests

import (
	"math"
	"testing"

	"envelope/api"
	"envelope/nord"
	"envelope/tape"
)

// someRows is rows of a Nord, of n numbers each.
func someRows(d *dice, count, n int, f func() float64) [][]float64 {
	var z [][]float64
	for range count {
		z = append(z, reals(n, f))
	}
	return z
}

func TestPredict(t *testing.T) {
	if got := nord.Predict(rows(row(1), row(2), row(3), row(4))); !sameRows(got, rows(row(10), row(20), row(15), row(4))) {
		t.Errorf("P801: %v", got)
	}
	d := &dice{81}
	for range 3000 {
		z := someRows(d, 2+d.of(6), 1+d.of(4), d.any)
		want := clone(z)
		order := len(z) - 1
		for j := 1; j <= order; j++ {
			for k := order - 1; k >= j-1; k-- {
				for i := range want[k] {
					want[k][i] = want[k][i] + want[k+1][i]
				}
			}
		}
		if got := nord.Predict(z); !sameRows(got, want) {
			t.Fatalf("P801: Predict of %v: %v, not %v", z, got, want)
		}
	}
	for range 500 { // small whole numbers are not rounded: the polynomial goes on as it is
		z := someRows(d, 2+d.of(6), 1+d.of(4), func() float64 { return float64(d.of(9) - 4) })
		s := float64(d.of(5) - 2)
		if got, want := nord.At(nord.Predict(z), s), nord.At(z, s+1); !sameRow(got, want) {
			t.Fatalf("P801: a step on from %v: %v, not %v", z, got, want)
		}
	}
}

func TestCorrect(t *testing.T) {
	d := &dice{82}
	for range 3000 {
		z := someRows(d, 2+d.of(6), 1+d.of(4), d.any)
		l, by := reals(len(z), d.any), reals(len(z[0]), d.any)
		want := clone(z)
		for k := range want {
			for i := range want[k] {
				part := l[k] * by[i]
				want[k][i] = want[k][i] + part
			}
		}
		if got := nord.Correct(z, l, by); !sameRows(got, want) {
			t.Fatalf("P801: Correct of %v, %v, %v: %v, not %v", z, l, by, got, want)
		}
	}
	x := 1 + math.Ldexp(1, -30) // a fused product would tell 2^-60 more
	if got := nord.Correct(rows(row(-2), row(0)), row(x, 1), row(x)); got[0][0] != 1+math.Ldexp(1, -29)-2 {
		t.Errorf("W1: %v", got)
	}
}

func TestRescale(t *testing.T) {
	if got := nord.Rescale(rows(row(3, 5), row(3, 5), row(3, 5)), -1); !sameRows(got, rows(row(3, 5), row(1.5, 2.5), row(0.75, 1.25))) {
		t.Errorf("P801: %v", got)
	}
	d := &dice{83}
	for range 3000 {
		z, k := someRows(d, 2+d.of(6), 1+d.of(4), d.any), d.of(81)-40
		want := clone(z)
		for j := range want {
			for i := range want[j] {
				want[j][i] = math.Ldexp(want[j][i], j*k)
			}
		}
		if got := nord.Rescale(z, k); !sameRows(got, want) {
			t.Fatalf("P801: Rescale of %v by %d: %v, not %v", z, k, got, want)
		}
	}
	if got := nord.Rescale(rows(row(1), row(1)), 40); got[1][0] != 1<<40 {
		t.Errorf("P801: by 40: %v", got)
	}
	if got := nord.Rescale(rows(row(1), row(1)), -40); got[1][0] != 1.0/(1<<40) {
		t.Errorf("P801: by -40: %v", got)
	}
}

func TestAt(t *testing.T) {
	if got := nord.At(rows(row(7, 8), row(1, 2)), 0); !sameRow(got, row(7, 8)) {
		t.Errorf("P801: at 0: %v", got)
	}
	if got := nord.At(rows(row(1), row(2), row(4)), -0.5); !sameRow(got, row(1)) {
		t.Errorf("P801: at -1/2: %v", got)
	}
	d := &dice{84}
	for range 3000 {
		z, s := someRows(d, 2+d.of(6), 1+d.of(4), d.any), d.any()
		want := make([]float64, len(z[0]))
		for i := range want {
			v := z[len(z)-1][i]
			for j := len(z) - 2; j >= 0; j-- {
				part := v * s
				v = part + z[j][i]
			}
			want[i] = v
		}
		if got := nord.At(z, s); !sameRow(got, want) {
			t.Fatalf("P801: %v at %v: %v, not %v", z, s, got, want)
		}
	}
}

func TestStart(t *testing.T) {
	d := &dice{85}
	for range 2000 {
		n := 1 + d.of(4)
		p, y, step := someTape(d, n, d.of(6)), reals(n, d.any), 1<<d.of(43)
		h, f := float64(step)/api.Ticks, tape.Eval(p, y)
		slope := make([]float64, n)
		for i := range slope {
			slope[i] = h * f[i]
		}
		got := nord.Start(p, y, step)
		want := api.Nord{At: 0, Step: step, Order: 1, Method: api.Adams, Z: rows(y, slope)}
		if shown(got, false) != shown(want, false) {
			t.Fatalf("P801: Start: %v, not %v", got, want)
		}
	}
}

func TestNordRules(t *testing.T) {
	d := &dice{86}
	for range 500 {
		n := 1 + d.of(4)
		z := roomy(someRows(d, 2+d.of(6), n, d.any))
		l, by := roomy(reals(len(z), d.any)), roomy(reals(n, d.any))
		p := roomy(someTape(d, n, 4))
		pure(t, "nord", []any{z, l, by, p}, func() []any {
			return []any{nord.Predict(z), nord.Correct(z, l, by), nord.Rescale(z, 3), nord.Rescale(z, 0), nord.At(z, -0.5), nord.Start(p, by, 4)}
		})
	}
	one, eight := someRows(d, 1, 2, d.any), someRows(d, 8, 2, d.any)
	two := someRows(d, 2, 2, d.any)
	for _, z := range [][][]float64{nil, one, eight, rows(row(1), row(1, 2))} { // refused, not clamped
		if len(nord.Predict(z))+len(nord.Correct(z, make([]float64, len(z)), row(1, 1)))+len(nord.Rescale(z, 1))+len(nord.At(z, 0)) != 0 {
			t.Errorf("P9: %d rows are taken", len(z))
		}
	}
	if len(nord.Rescale(two, 41))+len(nord.Rescale(two, -41)) != 0 {
		t.Error("P9: by 41")
	}
	for _, step := range list(0, 3, -1, 1<<43, math.MinInt) {
		if got := nord.Start(turning(), row(1, 2), step); shown(got, false) != shown(api.Nord{}, false) {
			t.Errorf("P9: a step of %d: %v", step, got)
		}
	}
	for range 2000 {
		var z [][]float64
		for range d.of(9) {
			z = append(z, reals(d.of(3), d.any))
		}
		l, by := reals(d.of(9), d.any), reals(d.of(4), d.any)
		p := wildTape(d)
		k := list(0, 1, -41, 41, math.MaxInt, math.MinInt)[d.of(6)]
		pure(t, "nord", []any{z, l, by, p}, func() []any {
			return []any{nord.Predict(z), nord.Correct(z, l, by), nord.Rescale(z, k), nord.At(z, 0.5), nord.Start(p, by, k)}
		})
	}
}
