package tests

import (
	"math"
	"testing"

	"envelope/api"
	"envelope/coef"
	"envelope/corr"
	"envelope/nord"
	"envelope/step"
)

// problem is what is to be solved: field, values; the box from -100 to 100, two units of time, steps from 2^-20 on.
func problem(t api.Tape, y ...float64) api.Problem {
	p := api.Problem{Tape: t, Y: y, End: 2 << 30, First: 1 << 20, Least: 1 << 10, Atol: 1e-6, Rtol: 1e-6, Cap: 1, Most: 10000}
	for range min(t.N, 5) {
		p.Box = append(p.Box, api.Iv{Lo: -100, Hi: 100})
	}
	return p
}

// begun is the state at the beginning of p.
func begun(p api.Problem) step.State {
	return step.State{N: nord.Start(p.Tape, p.Y, p.First)}
}

// triedOf is chapter 10's words on Try.
func triedOf(p api.Problem, s step.State) step.Tried {
	n := s.N
	z := nord.Predict(n.Z)
	l, _ := coef.Of(n.Method, n.Order)
	weights := corr.Weights(n.Z[0], p.Atol, p.Rtol)
	sum := corr.Solve(p.Tape, z, l, n.Step, n.Method, weights)
	out := step.Tried{}
	if sum.E == api.OK {
		out.Err = corr.Size(sum.D, weights) / float64(n.Order+1)
	}
	if sum.E == api.OK && out.Err <= 1 {
		out.Taken = true
		out.N = api.Nord{At: n.At + n.Step, Step: n.Step, Order: n.Order, Method: n.Method, Z: nord.Correct(z, l, sum.D)}
		out.S = step.State{N: out.N, Good: s.Good + 1, Fails: 0, Slow: s.Slow}
		highest := 5
		if n.Method == api.Bdf {
			highest = 4
		}
		if out.S.Good > n.Order+1 {
			if out.Err <= math.Pow(2, -float64(n.Order+3)) && n.Step <= p.End {
				out.S.N.Step = 2 * n.Step
				out.S.N.Z = nord.Rescale(out.N.Z, 1)
				out.S.Good = 0
			} else if out.Err <= 0.25 && n.Order < highest {
				var last []float64
				for _, x := range sum.D {
					last = append(last, l[n.Order]*x/float64(n.Order+1))
				}
				out.S.N.Order = n.Order + 1
				out.S.N.Z = append(clone(out.N.Z), last)
				out.S.Good = 0
			}
		}
		return out
	}
	if n.Step <= p.Least {
		out.S, out.E = s, api.TooSmall
		if sum.E == api.Singular || sum.E == api.NonFinite {
			out.E = sum.E
		}
		return out
	}
	out.S = step.State{N: n, Good: 0, Fails: s.Fails + 1, Slow: s.Slow}
	if sum.E == api.MaxSteps && n.Method == api.Adams {
		out.S.Slow++
	}
	out.S.N.Step = n.Step / 2
	out.S.N.Z = nord.Rescale(n.Z, -1)
	again := out.S.Fails >= 3
	if out.S.Slow >= 2 {
		out.S.N.Method, out.S.Slow, again = api.Bdf, 0, true
	}
	if again {
		start := nord.Start(p.Tape, n.Z[0], n.Step/2)
		start.At, start.Method = n.At, out.S.N.Method
		out.S.N, out.S.Fails = start, 0
	}
	return out
}

// kindOf tells which way a try went.
func kindOf(s step.State, x step.Tried) string {
	switch {
	case x.E != api.OK:
		return x.E.Error()
	case x.Taken && x.S.N.Step > s.N.Step:
		return "longer"
	case x.Taken && x.S.N.Order > s.N.Order:
		return "higher"
	case x.Taken:
		return "taken"
	case x.S.N.Method != s.N.Method:
		return "bdf"
	case x.S.Fails == 0:
		return "anew"
	case x.S.Slow > s.Slow:
		return "slow"
	}
	return "refused"
}

func TestTryWords(t *testing.T) {
	d := &dice{101}
	seen := map[string]int{}
	for i := range 1500 {
		p := problem(someTape(d, 1+d.of(3), 2+d.of(8)))
		switch i % 8 {
		case 0:
			p.Tape = decay(1000)
		case 1:
			p.Tape = turning()
		case 2:
			p.Tape = pendulous()
		case 3:
			p.Tape = decay(-float64(int(1) << d.of(12)))
		}
		p.Y = reals(p.Tape.N, d.small)
		p.First = 1 << (10 + d.of(22))
		p.Least = min(p.First, 1<<d.of(25))
		p.Atol, p.Rtol = math.Ldexp(1, -d.of(30)), math.Ldexp(1, -d.of(30))
		p.End = 1 << d.of(34)
		s := begun(p)
		if i%16 == 3 && p.First < 1<<30 { // nothing to part, by Bdf at the least step
			p.Tape, p.Least = decay(-float64(int(1<<30)/p.First)), p.First
			s = begun(p)
			s.N.Method = api.Bdf
		}
		for range 60 {
			got, want := step.Try(p, s), triedOf(p, s)
			if shown(got, false) != shown(want, false) {
				t.Fatalf("P1001 to P1003: %v, %v: %v, not %v", p, s, got, want)
			}
			seen[kindOf(s, got)]++
			if s = got.S; got.E != api.OK || s.N.At > 1<<40 {
				break
			}
		}
	}
	for _, k := range []string{"taken", "longer", "higher", "refused", "slow", "bdf", "anew", "small", "singular", "finite"} {
		if seen[k] < 5 {
			t.Errorf("the dice met %s %d times: %v", k, seen[k], seen)
		}
	}
}

func TestTryStill(t *testing.T) {
	p := problem(api.Tape{N: 1, Ops: ops(constant(0)), Out: list(0)}, 3)
	s := begun(p)
	for i := range 2 {
		got := step.Try(p, s)
		if !got.Taken || got.Err != 0 || got.E != api.OK || got.S.Good != i+1 || got.S.N.Step != p.First || got.S.N.At != (i+1)*p.First {
			t.Fatalf("P1002: try %d: %v", i, got)
		}
		s = got.S
	}
	got := step.Try(p, s) // the third good one of order 1: twice as long
	if got.S.Good != 0 || got.S.N.Step != 2*p.First || got.N.Step != p.First || got.S.N.At != 3*p.First {
		t.Errorf("P1002: %v", got)
	}
	p.End = p.First - 1 // no longer steps than that: a higher order
	got = step.Try(p, s)
	if got.S.Good != 0 || got.S.N.Step != p.First || got.S.N.Order != 2 || len(got.S.N.Z) != 3 || len(got.N.Z) != 2 {
		t.Errorf("P1002: %v", got)
	}
}

func TestTryRefused(t *testing.T) {
	p := problem(decay(3), 1)
	p.First, p.Least = 1<<31, 1<<30
	s := begun(p)
	s.Good, s.Slow = 7, 0
	got := step.Try(p, s)
	if got.Taken || got.E != api.OK || len(got.N.Z) != 0 || got.S.Fails != 1 || got.S.Good != 0 || got.S.Slow != 1 || got.S.N.Step != 1<<30 || got.Err != 0 {
		t.Errorf("P1003: too long: %v", got)
	}
	again := step.Try(p, got.S)
	if again.E != api.TooSmall || again.Taken || shown(again.S, false) != shown(got.S, false) {
		t.Errorf("P1003: at the least step: %v", again)
	}
	p.Least = 1
	again = step.Try(p, got.S)
	want := nord.Start(p.Tape, got.S.N.Z[0], 1<<29)
	want.Method = api.Bdf
	if again.E != api.OK || again.S.Slow != 0 || again.S.Fails != 0 || shown(again.S.N, false) != shown(want, false) {
		t.Errorf("P1003: slow twice: %v, not %v", again, want)
	}
	third := got.S
	third.N.Order, third.N.Z, third.N.Method = 2, append(clone(third.N.Z), row(5)), api.Bdf
	third.Fails, third.N.At = 2, 77<<20
	p.Atol, p.Rtol = 1e-12, 0
	again = step.Try(p, third)
	want.At = 77 << 20
	if again.Taken || again.Err <= 1 || again.S.Fails != 0 || shown(again.S.N, false) != shown(want, false) {
		t.Errorf("P1003: failed three times: %v, not %v", again, want)
	}
}

// TestTryEdges: sizes of error that are just as great as they may be.
func TestTryEdges(t *testing.T) {
	p := problem(api.Tape{N: 1, Ops: ops(constant(1)), Out: list(0)}, 0)
	p.First, p.Least, p.Rtol = 1<<20, 1<<10, 0
	s := begun(p)
	s.N.Z[1][0] = 0 // so all of the field's slope is added: 2^-10
	s.Good = 2
	for _, x := range []struct {
		name        string
		atol        float64
		taken       bool
		step, order int
	}{
		{"1", math.Ldexp(1, -11), true, p.First, 1},
		{"above 1", down(math.Ldexp(1, -11)), false, p.First / 2, 1},
		{"above 1/4", down(math.Ldexp(1, -9)), true, p.First, 1},
		{"1/4", math.Ldexp(1, -9), true, p.First, 2},
		{"above 1/16", down(math.Ldexp(1, -7)), true, p.First, 2},
		{"1/16", math.Ldexp(1, -7), true, 2 * p.First, 1},
	} {
		p.Atol = x.atol
		got := step.Try(p, s)
		if got.Taken != x.taken || got.S.N.Step != x.step || got.S.N.Order != x.order {
			t.Errorf("P1002: Err of %s: %v", x.name, got)
		}
	}
	s.Good = 1 // no more than Order + 1 is not enough
	if got := step.Try(p, s); got.S.Good != 2 || got.S.N.Step != p.First || got.S.N.Order != 1 {
		t.Errorf("P1002: two good ones: %v", got)
	}
	s.Good, p.End = 2, p.First
	if got := step.Try(p, s); got.S.N.Step != 2*p.First {
		t.Errorf("P1002: a step of End: %v", got)
	}
	p.Atol, p.Least = 1e-9, p.First
	if got := step.Try(p, s); got.E != api.TooSmall || got.Taken || !(got.Err > 1) {
		t.Errorf("P1003: a step of Least: %v", got)
	}
}

func TestTryEnds(t *testing.T) {
	// 1 / y at 0, and y' = y of a step of one: no number, nothing to part
	p := problem(api.Tape{N: 1, Ops: ops(load(0), constant(1), op(api.ODiv, 1, 0)), Out: list(2)}, 0)
	p.First, p.Least = 1<<30, 1<<30
	if got := step.Try(p, begun(p)); got.E != api.NonFinite || got.Err != 0 || shown(got.S, false) != shown(begun(p), false) {
		t.Errorf("P1003: %v", got)
	}
	p = problem(decay(-1), 1)
	p.First, p.Least = 1<<30, 1<<30
	s := begun(p)
	s.N.Method = api.Bdf
	if got := step.Try(p, s); got.E != api.Singular || shown(got.S, false) != shown(s, false) {
		t.Errorf("P1003: %v", got)
	}
	p.Least = 1 << 29
	if got := step.Try(p, s); got.E != api.OK || got.S.N.Step != 1<<29 || got.S.Slow != 0 {
		t.Errorf("P1003: %v", got)
	}
}

func TestStepRules(t *testing.T) {
	d := &dice{102}
	for range 300 {
		p := problem(someTape(d, 1+d.of(3), 5))
		p.Y = reals(p.Tape.N, d.small)
		p = roomy(p)
		s := begun(p)
		for range 12 {
			s = roomy(s)
			var got step.Tried
			pure(t, "Try", []any{p, s}, func() []any { got = step.Try(p, s); return []any{got} })
			s = got.S
		}
	}
	for range 4000 {
		p := problem(wildTape(d))
		p.Atol, p.Rtol, p.Least, p.End = d.any(), d.any(), d.of(3)-1, d.of(3)-1
		n := api.Nord{At: math.MaxInt - d.of(2), Step: list(0, 1, -1, 3, 1<<30, 1<<42, 1<<43, math.MinInt)[d.of(8)], Order: d.of(8) - 1, Method: d.of(4) - 1, Z: someRows(d, d.of(7), 1+d.of(3), d.any)}
		if d.of(2) == 0 && p.Tape.N < 5 && p.Tape.N > 0 {
			n.Order = 1 + d.of(5)
			n.Z = someRows(d, n.Order+1, p.Tape.N, d.any)
		}
		s := roomy(step.State{N: n, Good: math.MaxInt, Fails: d.of(5) - 1, Slow: d.of(5) - 1})
		pure(t, "Try", []any{p, s}, func() []any { return []any{step.Try(p, s)} })
	}
}
