package tests

import (
	"math"
	"testing"

	"envelope/api"
	"envelope/coef"
	"envelope/corr"
	"envelope/lin"
	"envelope/nord"
	"envelope/tape"
)

// decay is y' = -k y.
func decay(k float64) api.Tape {
	return api.Tape{N: 1, Ops: ops(load(0), constant(-k), op(api.OMul, 0, 1)), Out: list(2)}
}

// turning is x' = y, y' = -x.
func turning() api.Tape {
	return api.Tape{N: 2, Ops: ops(load(0), load(1), constant(0), op(api.OSub, 2, 0)), Out: list(1, 3)}
}

// pendulous is x' = y, y' = (1 - x x) y - x: it bends.
func pendulous() api.Tape {
	return api.Tape{N: 2, Ops: ops(load(0), load(1), constant(1), op(api.OMul, 0, 0), op(api.OSub, 2, 3), op(api.OMul, 4, 1), op(api.OSub, 5, 0)), Out: list(1, 6)}
}

// sizeOf is chapter 9's words on Size.
func sizeOf(d, weights []float64) float64 {
	g := 0.0
	for i := range d {
		x := math.Abs(d[i]) / weights[i]
		if x != x {
			return inf
		}
		if i == 0 || x > g {
			g = x
		}
	}
	return g
}

// sumOf is chapter 9's words on Solve.
func sumOf(t api.Tape, z [][]float64, l []float64, step, method int, weights []float64) corr.Sum {
	n, h := t.N, float64(step)/(1<<30)
	d := make([]float64, n)
	var lu lin.Lu
	if method == api.Bdf {
		m := changesOf(t, z[0])
		a := square(n, func() float64 { return 0 })
		for i := range m {
			for j := range m[i] {
				one := 0.0
				if i == j {
					one = 1
				}
				part := (h * l[0]) * m[i][j]
				a[i][j] = one - part
			}
		}
		var ok bool
		if lu, ok = lin.Part(a); !ok {
			return corr.Sum{E: api.Singular}
		}
	}
	for tries := 1; ; tries++ {
		y, g, off := make([]float64, n), make([]float64, n), make([]float64, n)
		for i := range y {
			part := l[0] * d[i]
			y[i] = z[0][i] + part
		}
		f := tape.Eval(t, y)
		for i := range g {
			part := h * f[i]
			g[i] = part - z[1][i]
			off[i] = g[i] - d[i]
		}
		c := 0.0
		if method == api.Adams {
			c, d = sizeOf(off, weights), g
		} else {
			x := lin.Solve(lu, off)
			for i := range d {
				d[i] += x[i]
			}
			c = sizeOf(x, weights)
		}
		for _, x := range d {
			if math.IsNaN(x) || math.IsInf(x, 0) {
				return corr.Sum{Tries: tries, E: api.NonFinite}
			}
		}
		if c <= math.Ldexp(1, -10) {
			return corr.Sum{D: d, Tries: tries}
		}
		if tries == 4 {
			return corr.Sum{Tries: 4, E: api.MaxSteps}
		}
	}
}

func TestWeights(t *testing.T) {
	if got := corr.Weights(row(-2, 0, 3), 0.5, 0.25); !sameRow(got, row(1, 0.5, 1.25)) {
		t.Errorf("P901: %v", got)
	}
	d := &dice{91}
	for range 1000 {
		y, atol, rtol := reals(d.of(5), d.any), d.any(), d.any()
		for i, w := range corr.Weights(y, atol, rtol) {
			part := rtol * math.Abs(y[i])
			if !same(w, atol+part) {
				t.Fatalf("P901: %v, %v, %v: %v", y, atol, rtol, w)
			}
		}
	}
}

func TestSize(t *testing.T) {
	for _, x := range []struct {
		d, w []float64
		want float64
	}{{nil, nil, 0}, {row(-3), row(2), 1.5}, {row(1, -4), row(1, 2), 2}, {row(nan, 1), row(1, 1), inf}, {row(1, nan), row(1, 1), inf}, {row(0), row(0), inf}, {row(5, inf), row(1, inf), inf}, {row(1), row(0), inf}, {row(1, 2), row(inf, inf), 0}} {
		if got := corr.Size(x.d, x.w); !same(got, x.want) {
			t.Errorf("P901: Size of %v by %v: %v, not %v", x.d, x.w, got, x.want)
		}
	}
	d := &dice{92}
	for range 2000 {
		n := d.of(5)
		by, w := reals(n, d.any), reals(n, d.any)
		if got, want := corr.Size(by, w), sizeOf(by, w); !same(got, want) {
			t.Fatalf("P901: Size of %v by %v: %v, not %v", by, w, got, want)
		}
	}
}

func TestCorrWords(t *testing.T) {
	d := &dice{93}
	seen := map[api.Errno]int{}
	tries := map[int]int{}
	for i := range 8000 {
		n, method := 1+d.of(4), d.of(2)
		order := 1 + d.of(5-method)
		l, _ := coef.Of(method, order)
		p, f := someTape(d, n, d.of(8)), d.small
		if i%4 == 0 {
			f = d.any
		}
		z, step := someRows(d, order+1, n, f), 1<<d.of(43)
		if i%2 == 0 {
			step = 1 << (15 + d.of(16))
		}
		weights := reals(n, func() float64 { return math.Ldexp(1, d.of(20)-12) })
		got, want := corr.Solve(p, z, l, step, method, weights), sumOf(p, z, l, step, method, weights)
		if shown(got, false) != shown(want, false) {
			t.Fatalf("P902: %v at %v, %v, %d, %d: %v, not %v", p, z, l, step, method, got, want)
		}
		seen[got.E]++
		tries[got.Tries]++
	}
	for _, e := range []api.Errno{api.OK, api.NonFinite, api.Singular, api.MaxSteps} {
		if seen[e] < 20 {
			t.Errorf("P902: the dice met %v %d times", e, seen[e])
		}
	}
	for k := range 5 {
		if tries[k] < 20 {
			t.Errorf("P902: the dice met %d tries %d times", k, tries[k])
		}
	}
}

func TestCorrEnds(t *testing.T) {
	unit := 1 << 30
	one := row(1)
	for _, x := range []struct {
		name    string
		t       api.Tape
		z       [][]float64
		step, m int
		want    corr.Sum
	}{
		{"a field of 0", api.Tape{N: 1, Ops: ops(constant(0)), Out: list(0)}, rows(row(3), row(0)), unit, api.Adams, corr.Sum{D: row(0), Tries: 1}},
		{"a field of 1", api.Tape{N: 1, Ops: ops(constant(1)), Out: list(0)}, rows(row(3), row(0)), unit, api.Adams, corr.Sum{D: row(1), Tries: 2}},
		{"too far", decay(2), rows(row(1), row(0)), unit, api.Adams, corr.Sum{Tries: 4, E: api.MaxSteps}},
		{"the same by Bdf", decay(2), rows(row(3), row(0)), unit, api.Bdf, corr.Sum{D: row(-2), Tries: 2}},
		{"nothing to part", decay(-1), rows(row(3), row(0)), unit, api.Bdf, corr.Sum{E: api.Singular}},
		{"no number", api.Tape{N: 1, Ops: ops(load(0), constant(1), op(api.ODiv, 1, 0)), Out: list(2)}, rows(row(0), row(0)), unit, api.Adams, corr.Sum{Tries: 1, E: api.NonFinite}},
	} {
		if got := corr.Solve(x.t, x.z, row(1, 1), x.step, x.m, one); shown(got, false) != shown(x.want, false) {
			t.Errorf("P902: %s: %v, not %v", x.name, got, x.want)
		}
	}
	// c at 2^-10 is near enough; a number above it is not
	field := api.Tape{N: 1, Ops: ops(constant(1.0 / 1024)), Out: list(0)}
	if got := corr.Solve(field, rows(row(0), row(0)), row(1, 1), unit, api.Adams, one); got.Tries != 1 {
		t.Errorf("P902: c of 2^-10: %v", got)
	}
	if got := corr.Solve(field, rows(row(0), row(0)), row(1, 1), unit, api.Adams, row(down(1))); got.Tries != 2 {
		t.Errorf("P902: c above 2^-10: %v", got)
	}
}

func TestCorrMethod(t *testing.T) {
	// the field's slope at the step's end is what the rows tell, up to what the last try left
	p := pendulous()
	n := nord.Start(p, row(1, 0.5), 1<<20)
	for _, method := range []int{api.Adams, api.Bdf} {
		l, _ := coef.Of(method, 1)
		z := nord.Predict(n.Z)
		weights := row(1e-6, 1e-6)
		sum := corr.Solve(p, z, l, n.Step, method, weights)
		if sum.E != api.OK {
			t.Fatalf("P903: %v", sum)
		}
		z = nord.Correct(z, l, sum.D)
		f := tape.Eval(p, z[0])
		for i := range f {
			if off := math.Abs(math.Ldexp(f[i], -10) - z[1][i]); off > 1e-9 {
				t.Errorf("P903: method %d: the slope is off %v", method, off)
			}
		}
	}
}

func TestCorrRules(t *testing.T) {
	for count := range 3 { // too few rows
		z := someRows(&dice{95}, count, 1, func() float64 { return 1 })
		quiet(t, "few rows", func() {
			corr.Solve(decay(1), z, make([]float64, count), 1, api.Adams, row(1))
			corr.Solve(decay(1), z, make([]float64, count), 1, api.Bdf, row(1))
		})
	}
	d := &dice{94}
	for range 4000 {
		p, method := wildTape(d), d.of(4)-1
		z := roomy(someRows(d, d.of(5), 1+d.of(4), d.any))
		l, w := roomy(reals(d.of(5), d.any)), roomy(reals(d.of(5), d.any))
		if d.of(2) == 0 {
			p = roomy(someTape(d, len(w)%4+1, 4))
			z, w = roomy(someRows(d, 2+d.of(4), p.N, d.small)), roomy(reals(p.N, d.any))
			l = roomy(reals(len(z), d.small))
		}
		step := list(1, 1<<30, 1<<42, 1<<43, 0, 3, -1, math.MinInt)[d.of(8)]
		pure(t, "corr", []any{p, z, l, w}, func() []any {
			return []any{corr.Solve(p, z, l, step, method, w), corr.Weights(w, 1, 2), corr.Size(l, w)}
		})
	}
}
