package tests

import (
	"math/big"
	"testing"

	"envelope/api"
	"envelope/iv"
	"envelope/model"
)

// powerOf is chapter 5's S_k.
func powerOf(k int) api.Iv {
	if k%2 == 1 {
		return api.Iv{Lo: -1, Hi: 0}
	}
	return api.Iv{Lo: 0, Hi: 1}
}

// polyOf, rangeOf, productOf, quotientOf are chapter 5's words.
func polyOf(m api.Model) api.Iv {
	r := m.C[0]
	for k := 1; k <= 8; k++ {
		r = iv.Add(r, iv.Mul(m.C[k], powerOf(k)))
	}
	return r
}

func rangeOf(m api.Model) api.Iv { return iv.Add(polyOf(m), m.R) }

func productOf(a, b api.Model) api.Model {
	var m api.Model
	for k := 0; k <= 8; k++ {
		m.C[k] = iv.Mul(a.C[0], b.C[k])
		for i := 1; i <= k; i++ {
			m.C[k] = iv.Add(m.C[k], iv.Mul(a.C[i], b.C[k-i]))
		}
	}
	for i := 0; i <= 8; i++ {
		for j := 0; j <= 8; j++ {
			if i+j > 8 {
				m.R = iv.Add(m.R, iv.Mul(iv.Mul(a.C[i], b.C[j]), powerOf(i+j)))
			}
		}
	}
	m.R = iv.Add(m.R, iv.Mul(a.R, rangeOf(b)))
	m.R = iv.Add(m.R, iv.Mul(polyOf(a), b.R))
	return m
}

func quotientOf(a, b api.Model) api.Model {
	if all := rangeOf(b); iv.In(0, b.C[0]) || iv.In(0, all) {
		return api.Model{R: wholeIv}
	}
	var q, less api.Model
	for k := 0; k <= 8; k++ {
		w := a.C[k]
		for i := 1; i <= k; i++ {
			w = iv.Sub(w, iv.Mul(b.C[i], q.C[k-i]))
		}
		q.C[k] = iv.Div(w, b.C[0])
	}
	product := productOf(b, q)
	for k := range less.C {
		less.C[k] = iv.Sub(a.C[k], product.C[k])
	}
	less.R = iv.Sub(a.R, product.R)
	q.R = iv.Div(rangeOf(less), rangeOf(b))
	return q
}

// someModel is a model of so many Cs that are not [0], whose ends are by f.
func someModel(d *dice, f func() float64) api.Model {
	var m api.Model
	for k := range d.of(10) {
		m.C[k] = point(f())
		if d.of(3) == 0 || !iv.Right(m.C[k]) {
			m.C[k] = right(f)
		}
	}
	if d.of(2) == 0 {
		m.R = right(f)
	}
	return m
}

func TestModelOf(t *testing.T) {
	for n := range 10 {
		z := row(1, -2, 3, 0.1, inf, 6, 7, 8, 9)[:n]
		m := model.Of(z)
		for k, c := range m.C {
			want := point(0)
			if k < n {
				want = point(z[k])
			}
			if !sameIv(c, want) {
				t.Errorf("P501: Of %v: %v", z, m)
			}
		}
		if !sameIv(m.R, point(0)) {
			t.Errorf("P501: Of %v: %v", z, m)
		}
	}
	quiet(t, "Of ten", func() { model.Of(make([]float64, 10)) })
}

func TestModelRange(t *testing.T) {
	if r := model.Range(model.Of(row(2))); !iv.In(2, r) || r.Lo < 2-1e-14 || r.Hi > 2+1e-14 {
		t.Errorf("P501: Range of 2: %v", r)
	}
	// 1 + s + s^2 of s from -1 to 0, each power by itself
	if r := model.Range(model.Of(row(1, 1, 1))); r.Lo > 0 || r.Hi < 2 || r.Lo < -1e-14 || r.Hi > 2+1e-14 {
		t.Errorf("P501: Range: %v", r)
	}
}

func TestModelWords(t *testing.T) {
	d := &dice{51}
	for i := range 6000 {
		f := d.small
		if i%3 == 0 {
			f = d.any
		}
		a, b := someModel(d, f), someModel(d, f)
		switch d.of(4) {
		case 0:
			b = a
		case 1:
			b.C = a.C
		}
		var add, sub api.Model
		for k := range add.C {
			add.C[k], sub.C[k] = iv.Add(a.C[k], b.C[k]), iv.Sub(a.C[k], b.C[k])
		}
		add.R, sub.R = iv.Add(a.R, b.R), iv.Sub(a.R, b.R)
		far := b
		far.C[0] = iv.Add(far.C[0], point(9))
		for name, x := range map[string][2]any{
			"P501: Range":    {model.Range(a), rangeOf(a)},
			"P501: Add":      {model.Add(a, b), add},
			"P501: Sub":      {model.Sub(a, b), sub},
			"P502: Mul":      {model.Mul(a, b), productOf(a, b)},
			"P503: Div":      {model.Div(a, b), quotientOf(a, b)},
			"P503: Div more": {model.Div(a, far), quotientOf(a, far)},
		} {
			if shown(x[0], false) != shown(x[1], false) {
				t.Fatalf("%s of %v, %v: %v, not %v", name, a, b, x[0], x[1])
			}
		}
	}
}

func TestModelDivByNothing(t *testing.T) {
	whole := api.Model{R: wholeIv}
	for _, b := range []api.Model{model.Of(nil), model.Of(row(1, 1)), model.Of(row(0, 1)), {C: [9]api.Iv{{Lo: 1, Hi: 2}}, R: wholeIv}, {C: [9]api.Iv{{Lo: -1, Hi: 1}}, R: api.Iv{Lo: 5, Hi: 6}}} {
		if got := model.Div(model.Of(row(1)), b); shown(got, false) != shown(whole, false) {
			t.Errorf("P503: by %v: %v", b, got)
		}
	}
	if got := model.Div(model.Of(row(1)), model.Of(row(2, 1))); !iv.In(0.5, got.C[0]) || !iv.In(-0.25, got.C[1]) || iv.Mag(got.R) > 1 {
		t.Errorf("P503: 1 by 2 + s: %v", got)
	}
}

// pick is a function that a model stands for: the numbers of one polynomial, what is left.
func pick(d *dice, m api.Model) []*big.Rat {
	var x []*big.Rat
	for _, c := range m.C {
		x = append(x, within(d, c))
	}
	return append(x, within(d, m.R))
}

// valueAt is the value at s of what pick picked; of the leftover alone, where there is none else.
func valueAt(x []*big.Rat, s *big.Rat) *big.Rat {
	v := new(big.Rat)
	for k := 8; k >= 0; k-- {
		v.Mul(v, s)
		v.Add(v, x[k])
	}
	return v.Add(v, x[9])
}

// standsFor tells whether m may be v at s.
func standsFor(m api.Model, s, v *big.Rat) bool {
	lo, hi := new(big.Rat).Set(v), new(big.Rat).Set(v)
	power := big.NewRat(1, 1)
	less := func(c api.Iv, by *big.Rat) {
		one, two := exact(c.Lo, 0), exact(c.Hi, 0)
		one.Mul(one, by)
		two.Mul(two, by)
		if one.Cmp(two) > 0 {
			one, two = two, one
		}
		lo.Sub(lo, one)
		hi.Sub(hi, two)
	}
	for _, c := range append(m.C[:], m.R) {
		if c.Lo == -inf || c.Hi == inf {
			return true
		}
	}
	for _, c := range m.C {
		less(c, power)
		power = new(big.Rat).Mul(power, s)
	}
	less(m.R, big.NewRat(1, 1))
	return lo.Sign() >= 0 && hi.Sign() <= 0
}

func TestModelHolds(t *testing.T) {
	d := &dice{52}
	for range 1500 {
		a, b := someModel(d, d.small), someModel(d, d.small)
		if d.of(2) == 0 {
			b.C[0] = iv.Add(b.C[0], point(float64(d.of(30)-15)))
		}
		x, y := pick(d, a), pick(d, b)
		s := big.NewRat(-int64(d.of(9)), 8)
		u, v := valueAt(x, s), valueAt(y, s)
		checks := map[string]struct {
			m    api.Model
			want *big.Rat
		}{
			"sum":        {model.Add(a, b), new(big.Rat).Add(u, v)},
			"difference": {model.Sub(a, b), new(big.Rat).Sub(u, v)},
			"product":    {model.Mul(a, b), new(big.Rat).Mul(u, v)},
		}
		if v.Sign() != 0 {
			checks["quotient"] = struct {
				m    api.Model
				want *big.Rat
			}{model.Div(a, b), new(big.Rat).Quo(u, v)}
		}
		for name, c := range checks {
			if !standsFor(c.m, s, c.want) || !holds(model.Range(c.m), c.want) {
				t.Fatalf("P504: %s of %v, %v at %v", name, a, b, s)
			}
		}
	}
}

func TestModelEval(t *testing.T) {
	p := api.Tape{N: 2, Ops: ops(load(0), load(1), constant(3), op(api.OMul, 0, 1), op(api.OAdd, 3, 2), op(api.ODiv, 1, 4), op(api.OSub, 5, 2)), Out: list(6, 2)}
	x, y := model.Of(row(1, 0.5, 0.25)), model.Of(row(-2, 0.125))
	y.R = api.Iv{Lo: -0.01, Hi: 0.02}
	three := model.Of(row(3))
	want := []api.Model{model.Sub(model.Div(y, model.Add(model.Mul(x, y), three)), three), three}
	if got := model.Eval(p, []api.Model{x, y}); shown(got, false) != shown(want, false) {
		t.Errorf("P503: Eval: %v, not %v", got, want)
	}
	d := &dice{53}
	for range 300 {
		n := 1 + d.of(3)
		p := someTape(d, n, d.of(5))
		var x []api.Model
		var at []*big.Rat
		s := big.NewRat(-int64(d.of(9)), 8)
		for range n {
			m := someModel(d, d.small)
			x, at = append(x, m), append(at, valueAt(pick(d, m), s))
		}
		got, want := model.Eval(p, x), exactly(p, at)
		for i := range want {
			if !standsFor(got[i], s, want[i]) {
				t.Fatalf("P504: %v along %v at %v: %v", p, x, s, got)
			}
		}
	}
}

func TestModelRules(t *testing.T) {
	d := &dice{54}
	z := roomy(row(1, 2, 3))
	pure(t, "Of", []any{z}, func() []any { return []any{model.Of(z)} })
	for range 1000 {
		p := wildTape(d)
		var x []api.Model
		for range d.of(6) {
			x = append(x, someModel(d, d.any))
		}
		x = roomy(x)
		pure(t, "Eval", []any{p, x}, func() []any { return []any{model.Eval(p, x)} })
	}
	for range 1000 { // ends the wrong way round
		var a, b api.Model
		for k := range a.C {
			a.C[k], b.C[k] = api.Iv{Lo: d.any(), Hi: d.any()}, api.Iv{Lo: d.any(), Hi: d.any()}
		}
		quiet(t, "model", func() { model.Add(a, b); model.Sub(a, b); model.Mul(a, b); model.Div(a, b); model.Range(a) })
	}
}
