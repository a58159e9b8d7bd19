package tests

import (
	"math/big"
	"testing"

	"envelope/api"
	"envelope/iv"
	"envelope/jac"
)

// changesOf is chapter 4's words on Jac.
func changesOf(t api.Tape, x []float64) [][]float64 {
	var u []float64
	var d [][]float64
	for _, o := range t.Ops {
		value, by := 0.0, make([]float64, t.N)
		switch o.Kind {
		case api.OConst:
			value = o.C
		case api.OVar:
			value, by[o.A] = x[o.A], 1
		case api.OAdd:
			value = u[o.A] + u[o.B]
		case api.OSub:
			value = u[o.A] - u[o.B]
		case api.OMul:
			value = u[o.A] * u[o.B]
		case api.ODiv:
			value = u[o.A] / u[o.B]
		}
		for i := range by {
			switch o.Kind {
			case api.OAdd:
				by[i] = d[o.A][i] + d[o.B][i]
			case api.OSub:
				by[i] = d[o.A][i] - d[o.B][i]
			case api.OMul:
				one, two := d[o.A][i]*u[o.B], u[o.A]*d[o.B][i]
				by[i] = one + two
			case api.ODiv:
				part := value * d[o.B][i]
				by[i] = (d[o.A][i] - part) / u[o.B]
			}
		}
		u, d = append(u, value), append(d, by)
	}
	var out [][]float64
	for _, k := range t.Out {
		out = append(out, d[k])
	}
	return out
}

// changesIvOf is chapter 4's words on JacIv.
func changesIvOf(t api.Tape, x []api.Iv) [][]api.Iv {
	var u []api.Iv
	var d [][]api.Iv
	for _, o := range t.Ops {
		value, by := point(o.C), make([]api.Iv, t.N)
		switch o.Kind {
		case api.OVar:
			value, by[o.A] = x[o.A], point(1)
		case api.OAdd:
			value = iv.Add(u[o.A], u[o.B])
		case api.OSub:
			value = iv.Sub(u[o.A], u[o.B])
		case api.OMul:
			value = iv.Mul(u[o.A], u[o.B])
		case api.ODiv:
			value = iv.Div(u[o.A], u[o.B])
		}
		for i := range by {
			switch o.Kind {
			case api.OAdd:
				by[i] = iv.Add(d[o.A][i], d[o.B][i])
			case api.OSub:
				by[i] = iv.Sub(d[o.A][i], d[o.B][i])
			case api.OMul:
				by[i] = iv.Add(iv.Mul(d[o.A][i], u[o.B]), iv.Mul(u[o.A], d[o.B][i]))
			case api.ODiv:
				by[i] = iv.Div(iv.Sub(d[o.A][i], iv.Mul(value, d[o.B][i])), u[o.B])
			}
		}
		u, d = append(u, value), append(d, by)
	}
	var out [][]api.Iv
	for _, k := range t.Out {
		out = append(out, d[k])
	}
	return out
}

// changesExactly is how a tape changes, on fractions; nil, where it divides by 0.
func changesExactly(t api.Tape, x []*big.Rat) [][]*big.Rat {
	var u []*big.Rat
	var d [][]*big.Rat
	mul := func(a, b *big.Rat) *big.Rat { return new(big.Rat).Mul(a, b) }
	for _, o := range t.Ops {
		value, by := new(big.Rat), make([]*big.Rat, t.N)
		for i := range by {
			by[i] = new(big.Rat)
		}
		if o.Kind == api.ODiv && u[o.B].Sign() == 0 {
			return nil
		}
		switch o.Kind {
		case api.OConst:
			value.SetFloat64(o.C)
		case api.OVar:
			value.Set(x[o.A])
			by[o.A].SetInt64(1)
		case api.OAdd:
			value.Add(u[o.A], u[o.B])
		case api.OSub:
			value.Sub(u[o.A], u[o.B])
		case api.OMul:
			value.Mul(u[o.A], u[o.B])
		case api.ODiv:
			value.Quo(u[o.A], u[o.B])
		}
		for i := range by {
			switch o.Kind {
			case api.OAdd:
				by[i].Add(d[o.A][i], d[o.B][i])
			case api.OSub:
				by[i].Sub(d[o.A][i], d[o.B][i])
			case api.OMul:
				by[i].Add(mul(d[o.A][i], u[o.B]), mul(u[o.A], d[o.B][i]))
			case api.ODiv:
				by[i].Sub(mul(d[o.A][i], u[o.B]), mul(u[o.A], d[o.B][i]))
				by[i].Quo(by[i], mul(u[o.B], u[o.B]))
			}
		}
		u, d = append(u, value), append(d, by)
	}
	var out [][]*big.Rat
	for _, k := range t.Out {
		out = append(out, d[k])
	}
	return out
}

func TestJac(t *testing.T) {
	// x y / (x - y), and 3
	p := api.Tape{N: 2, Ops: ops(load(0), load(1), op(api.OMul, 0, 1), op(api.OSub, 0, 1), op(api.ODiv, 2, 3), constant(3)), Out: list(4, 5)}
	if got := jac.Jac(p, row(3, 1)); !sameRows(got, rows(row(-0.25, 2.25), row(0, 0))) {
		t.Errorf("P401: %v", got)
	}
	d := &dice{31}
	for range 5000 {
		n := 1 + d.of(4)
		p, x := someTape(d, n, d.of(12)), reals(n, d.any)
		if got, want := jac.Jac(p, x), changesOf(p, x); !sameRows(got, want) {
			t.Fatalf("P401: %v at %v: %v, not %v", p, x, got, want)
		}
		v := make([]api.Iv, n)
		for i := range v {
			v[i] = right(d.any)
		}
		if got, want := jac.JacIv(p, v), changesIvOf(p, v); shown(got, false) != shown(want, false) {
			t.Fatalf("P401: %v within %v: %v, not %v", p, v, got, want)
		}
	}
}

func TestJacHolds(t *testing.T) {
	d := &dice{32}
	for range 2000 {
		n := 1 + d.of(3)
		p, x, at := someTape(d, n, d.of(6)), make([]api.Iv, n), make([]*big.Rat, n)
		for i := range x {
			x[i] = right(d.small)
			at[i] = within(d, x[i])
		}
		got, want := jac.JacIv(p, x), changesExactly(p, at)
		for i := range want {
			for k := range want[i] {
				if !holds(got[i][k], want[i][k]) {
					t.Fatalf("P403: %v within %v: %v", p, x, got)
				}
			}
		}
	}
}

func TestNorm(t *testing.T) {
	for _, x := range []struct {
		name string
		j    [][]api.Iv
		want float64
	}{
		{"one row of -2", [][]api.Iv{ivs(-2)}, -2},
		{"one row of -3 to -1", [][]api.Iv{{{Lo: -3, Hi: -1}}}, -1},
		{"two rows", [][]api.Iv{{point(-5), {Lo: -4, Hi: 3}}, {point(1), point(-3)}}, up(-1)},
		{"the first one the greater", [][]api.Iv{ivs(2, 0), ivs(0, -9)}, up(2)},
		{"three columns in order", [][]api.Iv{ivs(1, 1e-17, -2), ivs(-9, -90, 0), ivs(0, 0, -9)}, up(up(1+1e-17) + 2)},
		{"whole", [][]api.Iv{ivs(0, 1), {wholeIv, point(0)}}, inf},
		{"a row that is NaN", [][]api.Iv{{{Lo: -inf, Hi: -inf}, wholeIv}, ivs(0, 1)}, inf},
		{"a later row that is NaN", [][]api.Iv{ivs(1, 0), {wholeIv, {Lo: -inf, Hi: -inf}}}, inf},
	} {
		if got := jac.Norm(x.j); !same(got, x.want) {
			t.Errorf("P402: %s: %v, not %v", x.name, got, x.want)
		}
	}
	d := &dice{33}
	for range 2000 {
		n := 1 + d.of(4)
		j := make([][]api.Iv, n)
		want := -inf
		for i := range j {
			for range n {
				j[i] = append(j[i], right(d.real))
			}
			s := j[i][i].Hi
			for k := range n {
				if k != i {
					s = up(s + max(j[i][k].Hi, -j[i][k].Lo))
				}
			}
			want = max(want, s)
		}
		if got := jac.Norm(j); got != want {
			t.Fatalf("P402: %v: %v, not %v", j, got, want)
		}
	}
}

func TestJacRules(t *testing.T) {
	d := &dice{34}
	twice := roomy(api.Tape{N: 2, Ops: ops(load(0), load(1), op(api.OMul, 0, 1)), Out: list(2, 2)})
	x := roomy(row(2, 3))
	pure(t, "Jac", []any{twice, x}, func() []any { return []any{jac.Jac(twice, x)} })
	pure(t, "JacIv", []any{twice, x}, func() []any { return []any{jac.JacIv(twice, points(x))} })
	for range 3000 {
		p, x := wildTape(d), reals(d.of(6), d.any)
		pure(t, "Jac", []any{p, x}, func() []any { return []any{jac.Jac(p, x), jac.JacIv(p, points(x))} })
	}
	for _, j := range [][][]api.Iv{nil, {}, {nil}, {ivs(1, 2)}, {ivs(1), ivs(2)}, {ivs(1, 2), ivs(1)}} {
		j = roomy(j)
		pure(t, "Norm", []any{j}, func() []any { return []any{jac.Norm(j)} })
	}
}
