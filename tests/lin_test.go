package tests

import (
	"math"
	"math/big"
	"testing"

	"envelope/iv"
	"envelope/lin"
)

// square is n rows of n numbers by f.
func square(n int, f func() float64) [][]float64 {
	a := make([][]float64, n)
	for i := range a {
		a[i] = reals(n, f)
	}
	return a
}

// partOf is chapter 6's words on Part.
func partOf(given [][]float64) ([][]float64, []int, bool) {
	a, perm := clone(given), []int{}
	n := len(a)
	for i := range n {
		perm = append(perm, i)
	}
	for k := 0; k < n; k++ {
		p := k
		for i := k; i < n; i++ {
			if math.Abs(a[i][k]) > math.Abs(a[p][k]) {
				p = i
			}
		}
		if v := a[p][k]; v == 0 || math.IsNaN(v) || math.IsInf(v, 0) {
			return nil, nil, false
		}
		a[k], a[p], perm[k], perm[p] = a[p], a[k], perm[p], perm[k]
		for i := k + 1; i < n; i++ {
			a[i][k] = a[i][k] / a[k][k]
			for j := k + 1; j < n; j++ {
				part := a[i][k] * a[k][j]
				a[i][j] = a[i][j] - part
			}
		}
	}
	return a, perm, true
}

// solveOf is chapter 6's words on Solve.
func solveOf(a [][]float64, perm []int, b []float64) []float64 {
	n := len(b)
	x := make([]float64, n)
	for i := 0; i < n; i++ {
		x[i] = b[perm[i]]
		for j := 0; j < i; j++ {
			part := a[i][j] * x[j]
			x[i] = x[i] - part
		}
	}
	for i := n - 1; i >= 0; i-- {
		for j := i + 1; j < n; j++ {
			part := a[i][j] * x[j]
			x[i] = x[i] - part
		}
		x[i] = x[i] / a[i][i]
	}
	return x
}

func TestPart(t *testing.T) {
	l, ok := lin.Part(rows(row(1, 2), row(4, 6)))
	if !ok || !sameRows(l.A, rows(row(4, 6), row(0.25, 0.5))) || l.Perm[0] != 1 || l.Perm[1] != 0 {
		t.Errorf("P601: %v, %v", l, ok)
	}
	if l, ok := lin.Part(rows(row(-2, 1), row(2, 3))); !ok || l.Perm[0] != 0 { // the first one of two as great
		t.Errorf("P601: of two as great: %v", l)
	}
	for name, a := range map[string][][]float64{
		"one 0":          rows(row(0)),
		"one -0":         rows(row(minus)),
		"one infinite":   rows(row(inf)),
		"one NaN":        rows(row(nan)),
		"a column of 0":  rows(row(1, 0), row(3, 0)),
		"row twice":      rows(row(1, 2), row(1, 2)),
		"an infinite":    rows(row(1, 0), row(-inf, 1)),
		"NaN first":      rows(row(nan, 0), row(1, 1)),
		"a later NaN":    rows(row(2, 0), row(1, nan)),
		"overflow":       rows(row(1, most), row(-1, most)),
		"no row":         nil,
		"a row short":    rows(row(1, 2), row(1)),
		"a row long":     rows(row(1, 2, 3), row(1, 5, 6)),
		"nine rows":      identity(9),
		"a row too many": rows(row(1, 2), row(1, 3), row(1, 4)),
	} {
		if l, ok := lin.Part(a); ok || len(l.A) != 0 || len(l.Perm) != 0 {
			t.Errorf("P601: %s: %v, %v", name, l, ok)
		}
	}
	if _, ok := lin.Part(rows(row(2, 1), row(nan, 1))); ok { // it is no greater one, but what it leaves is none
		t.Error("P601: NaN below the greatest")
	}
	if l, ok := lin.Part(identity(8)); !ok || len(l.A) != 8 {
		t.Error("P601: eight rows are refused")
	}
}

func identity(n int) [][]float64 {
	a := square(n, func() float64 { return 0 })
	for i := range a {
		a[i][i] = 1
	}
	return a
}

func TestLinWords(t *testing.T) {
	d := &dice{61}
	for i := range 6000 {
		n, f := 1+d.of(8), d.small
		if i%3 == 0 {
			f = d.any
		}
		if i%3 == 1 {
			f = func() float64 { return float64(d.of(4) - 1) }
		}
		a, b := square(n, f), reals(n, f)
		parts, perm, ok := partOf(a)
		l, got := lin.Part(a)
		if ok != got || shown(l.A, false) != shown(parts, false) || shown(l.Perm, false) != shown(perm, false) {
			t.Fatalf("P601: Part of %v: %v, %v, not %v, %v, %v", a, l, got, parts, perm, ok)
		}
		if !ok {
			continue
		}
		x := lin.Solve(l, b)
		if want := solveOf(parts, perm, b); !sameRow(x, want) {
			t.Fatalf("P601: Solve of %v, %v: %v, not %v", a, b, x, want)
		}
		for i, got := range lin.Left(a, x, b) {
			want := point(b[i])
			for j := range n {
				want = iv.Sub(want, iv.Mul(point(a[i][j]), point(x[j])))
			}
			if !sameIv(got, want) {
				t.Fatalf("P602: Left of %v, %v, %v: %v, not %v", a, x, b, got, want)
			}
		}
	}
}

func TestLinHolds(t *testing.T) {
	d := &dice{62}
	for range 1000 {
		n := 1 + d.of(8)
		a, b := square(n, d.small), reals(n, d.small)
		l, ok := lin.Part(a)
		if !ok {
			continue
		}
		x := lin.Solve(l, b)
		left := lin.Left(a, x, b)
		for i := range n {
			w := exact(b[i], 0)
			for j := range n {
				w.Sub(w, new(big.Rat).Mul(exact(a[i][j], 0), exact(x[j], 0)))
			}
			if !holds(left[i], w) {
				t.Fatalf("P603: row %d of %v, %v, %v: %v", i, a, x, b, left)
			}
			if iv.Mag(left[i]) > 1e-6 {
				t.Fatalf("P601: %v, %v: %v leaves %v", a, b, x, left)
			}
		}
	}
}

func TestLinRules(t *testing.T) {
	d := &dice{63}
	for range 2000 {
		n := 1 + d.of(8)
		a, b := roomy(square(n, d.any)), roomy(reals(n, d.any))
		pure(t, "Part", []any{a}, func() []any { l, ok := lin.Part(a); return []any{l, ok} })
		pure(t, "Left", []any{a, b}, func() []any { return []any{lin.Left(a, b, b)} })
		if l, ok := lin.Part(a); ok {
			l = roomy(l)
			pure(t, "Solve", []any{l, b}, func() []any { return []any{lin.Solve(l, b)} })
		}
	}
	one := identity(2)
	for _, x := range []struct {
		l lin.Lu
		b []float64
	}{{lin.Lu{}, nil}, {lin.Lu{}, row(1)}, {lin.Lu{A: one}, row(1, 2)}, {lin.Lu{A: one, Perm: list(0, 2)}, row(1, 2)}, {lin.Lu{A: one, Perm: list(-1, 0)}, row(1, 2)}, {lin.Lu{A: one, Perm: list(0, 1)}, row(1)}, {lin.Lu{A: rows(row(1, 2), row(1)), Perm: list(0, 1)}, row(1, 2)}, {lin.Lu{A: one, Perm: list(0, 1, 1)}, row(1, 2)}, {lin.Lu{A: identity(1), Perm: list(0, 0)}, row(1, 2)}} {
		quiet(t, "Solve", func() { lin.Solve(x.l, x.b) })
	}
	for _, a := range [][][]float64{nil, rows(nil), rows(row(1, 2)), one, rows(row(1, 2), row(1)), identity(9)} {
		for _, b := range [][]float64{nil, row(1), row(1, 2), row(1, 2, 3)} {
			quiet(t, "Left", func() { lin.Left(a, b, row(1, 2)); lin.Left(a, row(1, 2), b) })
		}
	}
}
