package tests

import (
	"math"
	"testing"

	"envelope/api"
	"envelope/bound"
	"envelope/iv"
	"envelope/jac"
	"envelope/model"
	"envelope/nord"
	"envelope/step"
)

// boundOf is chapter 11's words on Step; the number of tubes that were tried, too, and the last one.
func boundOf(p api.Problem, n api.Nord, y []float64, before float64) (parts bound.Parts, e api.Errno, k int, tube []api.Iv) {
	h := math.Ldexp(float64(n.Step), -30)
	var q []api.Model
	var jump, defect float64
	for i := range y {
		var z []float64
		for _, r := range n.Z {
			z = append(z, r[i])
		}
		q = append(q, model.Of(z))
		v := point(n.Z[n.Order][i])
		for j := n.Order - 1; j >= 0; j-- {
			v = iv.Add(iv.Mul(v, point(-1)), point(n.Z[j][i]))
		}
		jump = max(jump, iv.Mag(iv.Sub(v, point(y[i]))))
	}
	for i, f := range model.Eval(p.Tape, q) {
		var d api.Model
		for k := 0; k < n.Order; k++ {
			d.C[k] = iv.Div(iv.Mul(point(float64(k)+1), point(n.Z[k+1][i])), point(h))
		}
		defect = max(defect, iv.Mag(model.Range(model.Sub(f, d))))
	}
	if jump == inf || defect == inf {
		return bound.Parts{}, api.Tube, 0, nil
	}
	a := up(before + jump)
	part := up(h * defect)
	err := up(a + part)
	r := up(4 * err)
	for k := 1; k <= 3; k++ {
		tube = nil
		for i := range q {
			tube = append(tube, iv.Add(model.Range(q[i]), api.Iv{Lo: -r, Hi: r}))
		}
		for i := range q {
			if !iv.Within(tube[i], p.Box[i]) {
				return bound.Parts{}, api.LeftBox, k, tube
			}
		}
		m, g := jac.Norm(jac.JacIv(p.Tape, tube)), 1.0
		if m > 0 {
			g = max(1, iv.Exp(up(h*m)))
		}
		b := up(g * err)
		if b < r {
			return bound.Parts{Jump: jump, Defect: defect, Norm: m, Growth: g, Bound: b}, api.OK, k, tube
		}
		if b == inf {
			return bound.Parts{}, api.Tube, k, tube
		}
		r = up(4 * b)
	}
	return bound.Parts{}, api.Tube, 4, tube
}

// atBox holds the last tube against a box that it just fills, and one that is a number less.
func atBox(t *testing.T, p api.Problem, n api.Nord, y []float64, before float64, want bound.Parts, tube []api.Iv) {
	t.Helper()
	p.Box = clone(tube)
	if got, e := bound.Step(p, n, y, before); e != api.OK || got != want {
		t.Fatalf("P1101: a box that the tube fills: %v, %v", got, e)
	}
	for i := range tube {
		p.Box = clone(tube)
		p.Box[i].Hi = down(p.Box[i].Hi)
		_, e := bound.Step(p, n, y, before)
		p.Box = clone(tube)
		p.Box[i].Lo = up(p.Box[i].Lo)
		_, also := bound.Step(p, n, y, before)
		if e != api.LeftBox || also != api.LeftBox {
			t.Fatalf("P1101: a box that the tube leaves: %v, %v", e, also)
		}
	}
}

func TestBoundWords(t *testing.T) {
	d := &dice{111}
	seen := map[api.Errno]int{}
	tubes := map[int]int{}
	for i := range 4000 {
		p := problem(someTape(d, 1+d.of(3), 2+d.of(8)))
		if i%2 == 0 {
			p.Tape = pendulous()
			p.Box = p.Box[:1]
			p.Box = append(p.Box, p.Box[0])
		}
		for k := range p.Box {
			if i%5 > 0 {
				p.Box[k] = api.Iv{Lo: -1e9, Hi: 1e9}
			}
		}
		p.Y = reals(p.Tape.N, d.small)
		p.First = 1 << (20 + d.of(13))
		p.Least = p.First
		s := begun(p)
		y := p.Y
		for range 4 {
			tried := step.Try(p, s)
			if !tried.Taken {
				tried.N = s.N // what was not corrected is a step as well: it has a defect
				tried.N.At += tried.N.Step
				tried.N.Z = nord.Predict(s.N.Z)
			}
			before := math.Ldexp(float64(d.of(4)), -d.of(40))
			got, e := bound.Step(p, tried.N, y, before)
			want, wantE, k, tube := boundOf(p, tried.N, y, before)
			if e != wantE || shown(got, false) != shown(want, false) {
				t.Fatalf("P1101: %v, %v, %v, %v: %v, %v, not %v, %v", p, tried.N, y, before, got, e, want, wantE)
			}
			if e == api.OK {
				atBox(t, p, tried.N, y, before, want, tube)
			}
			seen[e]++
			tubes[k]++
			if !tried.Taken || e != api.OK {
				break
			}
			s, y = tried.S, tried.N.Z[0]
		}
	}
	if seen[api.OK] < 100 || seen[api.LeftBox] < 100 || seen[api.Tube] < 100 {
		t.Errorf("the dice met %v", seen)
	}
	for k := range 5 {
		if tubes[k] < 3 {
			t.Errorf("the dice met tubes %v", tubes)
		}
	}
}

func TestBoundEnds(t *testing.T) {
	still := problem(api.Tape{N: 1, Ops: ops(constant(0)), Out: list(0)}, 3)
	n := step.Try(still, begun(still)).N
	parts, e := bound.Step(still, n, row(3), 0)
	if e != api.OK || parts.Bound <= 0 || parts.Bound > 1e-12 || parts.Jump > 1e-12 || parts.Defect > 1e-9 || parts.Growth != 1 {
		t.Errorf("P1101: a field of 0: %v, %v", parts, e)
	}
	if parts, e := bound.Step(still, n, row(2.5), 0.25); e != api.OK || parts.Jump < 0.5 || parts.Bound < 0.75 || parts.Bound > 0.7501 {
		t.Errorf("P1101: y elsewhere: %v, %v", parts, e)
	}
	still.Box[0].Hi = 3
	if parts, e := bound.Step(still, n, row(3), 0); e != api.LeftBox || parts != (bound.Parts{}) {
		t.Errorf("P1101: at the box's end: %v, %v", parts, e)
	}
	by := problem(api.Tape{N: 1, Ops: ops(load(0), constant(1), op(api.ODiv, 1, 0)), Out: list(2)}, 1)
	n = api.Nord{At: 1 << 20, Step: 1 << 20, Order: 1, Z: rows(row(1), row(2))}
	if parts, e := bound.Step(by, n, row(-1), 0); e != api.Tube || parts != (bound.Parts{}) {
		t.Errorf("P1101: a defect that is infinite: %v, %v", parts, e)
	}
	still.Box[0].Hi = 100
	n = api.Nord{At: 1 << 20, Step: 1 << 20, Order: 1, Z: rows(row(inf), row(0))}
	if parts, e := bound.Step(still, n, row(1), 0); e != api.Tube || parts != (bound.Parts{}) {
		t.Errorf("P1101: a jump that is infinite: %v, %v", parts, e)
	}
	fall := problem(decay(2), 1)
	n = step.Try(fall, begun(fall)).N
	if parts, e := bound.Step(fall, n, row(1), 0); e != api.OK || parts.Norm >= -1.99 || parts.Norm < -2.01 || parts.Growth != 1 {
		t.Errorf("P1101: what draws together: %v, %v", parts, e)
	}
	rise := problem(decay(-1<<10), 1)
	rise.Box[0] = api.Iv{Lo: -most, Hi: most}
	n = api.Nord{At: 1 << 30, Step: 1 << 30, Order: 1, Z: rows(row(1), row(0))}
	if parts, e := bound.Step(rise, n, row(1), 0); e != api.Tube || parts != (bound.Parts{}) {
		t.Errorf("P1101: a growth that is infinite: %v, %v", parts, e)
	}
}

// TestBoundHolds: solutions that are known stay within the bound, all through each step.
func TestBoundHolds(t *testing.T) {
	for _, x := range []struct {
		name string
		p    api.Problem
		at   func(y []float64, time float64) []float64 // from y, so much later
	}{
		{"decay", problem(decay(3), 2), func(y []float64, s float64) []float64 { return row(y[0] * math.Exp(-3*s)) }},
		{"growth", problem(decay(-2), 1), func(y []float64, s float64) []float64 { return row(y[0] * math.Exp(2*s)) }},
		{"turning", problem(turning(), 1, 0.5), func(y []float64, s float64) []float64 {
			return row(y[0]*math.Cos(s)+y[1]*math.Sin(s), y[1]*math.Cos(s)-y[0]*math.Sin(s))
		}},
		{"square", problem(api.Tape{N: 1, Ops: ops(load(0), op(api.OMul, 0, 0)), Out: list(1)}, 0.25), func(y []float64, s float64) []float64 { return row(y[0] / (1 - s*y[0])) }},
	} {
		s, y := begun(x.p), x.p.Y
		d := &dice{112}
		for count := 0; count < 200; {
			tried := step.Try(x.p, s)
			s = tried.S
			if !tried.Taken {
				continue
			}
			count++
			before := math.Ldexp(1, -d.of(30)-4)
			parts, e := bound.Step(x.p, tried.N, y, before)
			if e == api.LeftBox && count > 20 {
				break
			}
			if e != api.OK {
				t.Fatalf("P1102: %s: %v", x.name, e)
			}
			h := math.Ldexp(float64(tried.N.Step), -30)
			for k := range 17 {
				way := float64(k) / 16
				q := nord.At(tried.N.Z, way-1)
				for _, off := range []float64{-1, 0, 0.5, 1} {
					from := make([]float64, len(y))
					for i := range y {
						from[i] = y[i] + off*before*float64(1-2*(i%2))
					}
					for i, v := range x.at(from, way*h) {
						if math.Abs(v-q[i]) > parts.Bound+1e-14*math.Abs(v) {
							t.Fatalf("P1102: %s at %d of %v: off %v, bound %v", x.name, tried.N.At, way, v-q[i], parts.Bound)
						}
					}
				}
			}
			y = tried.N.Z[0]
		}
	}
}

func TestBoundRules(t *testing.T) {
	d := &dice{113}
	for range 300 {
		p := problem(someTape(d, 1+d.of(3), 5))
		p.Y = reals(p.Tape.N, d.small)
		p = roomy(p)
		tried := roomy(step.Try(p, begun(p)))
		pure(t, "Step", []any{p, tried}, func() []any {
			parts, e := bound.Step(p, tried.N, p.Y, 0.5)
			return []any{parts, e}
		})
	}
	for range 3000 {
		p := problem(wildTape(d))
		n := api.Nord{At: d.of(3), Step: list(0, 1, -1, 3, 1<<30, 1<<42, 1<<43, math.MinInt)[d.of(8)], Order: d.of(8) - 1, Method: d.of(4) - 1, Z: someRows(d, d.of(7), 1+d.of(3), d.any)}
		y := reals(d.of(4), d.any)
		if d.of(2) == 0 && p.Tape.N < 5 && p.Tape.N > 0 {
			n.Order = 1 + d.of(5)
			n.Z = someRows(d, n.Order+1, p.Tape.N, d.any)
			y = reals(p.Tape.N, d.any)
		}
		if d.of(4) == 0 {
			p.Box = []api.Iv{{Lo: nan, Hi: inf}, {Lo: 3, Hi: -3}}[:d.of(3)]
		}
		before := d.any()
		n, y = roomy(n), roomy(y)
		pure(t, "Step", []any{p, n, y}, func() []any {
			parts, e := bound.Step(p, n, y, before)
			if e != api.OK && parts != (bound.Parts{}) {
				t.Errorf("P4: %v beside %v", parts, e)
			}
			return []any{parts, e}
		})
	}
}
