package tests

import (
	"math"
	"math/big"
	"testing"

	"envelope/api"
	"envelope/tape"
)

// op, constant, load: operations in short.
func op(kind, a, b int) api.Op        { return api.Op{Kind: kind, A: a, B: b} }
func constant(c float64) api.Op       { return api.Op{Kind: api.OConst, C: c} }
func load(a int) api.Op               { return api.Op{Kind: api.OVar, A: a} }
func list(n ...int) []int             { return n }
func row(x ...float64) []float64      { return x }
func ops(o ...api.Op) []api.Op        { return o }
func clone[T any](x T) T              { return roomy(x) }
func ivs(x ...float64) []api.Iv       { return points(x) }
func rows(x ...[]float64) [][]float64 { return x }

// points is [x] of each number.
func points(x []float64) []api.Iv {
	out := make([]api.Iv, len(x))
	for i := range x {
		out[i] = point(x[i])
	}
	return out
}

// someTape is a field of n variables that Check takes: the variables first, then more operations by dice.
func someTape(d *dice, n, more int) api.Tape {
	t := api.Tape{N: n}
	for i := range n {
		t.Ops = append(t.Ops, load(i))
	}
	for range more {
		k := len(t.Ops)
		switch kind := d.of(5); kind {
		case 0:
			t.Ops = append(t.Ops, constant(d.small()))
		default:
			t.Ops = append(t.Ops, op(kind+1, d.of(k), d.of(k)))
		}
	}
	for range n {
		t.Out = append(t.Out, len(t.Ops)-1-d.of(min(len(t.Ops), 4)))
	}
	return t
}

// wildTape is a field, or what is none.
func wildTape(d *dice) api.Tape {
	t := someTape(d, 1+d.of(4), d.of(6))
	for range d.of(3) {
		i := d.of(len(t.Ops))
		wild := list(-1, 0, 1, 2, 5, 6, 60, math.MaxInt, math.MinInt)[d.of(9)]
		switch d.of(6) {
		case 0:
			t.Ops[i].Kind = wild
		case 1:
			t.Ops[i].A = wild
		case 2:
			t.Ops[i].B = wild
		case 3:
			t.N = wild
		case 4:
			t.Out[d.of(len(t.Out))] = wild
		case 5:
			t.Ops = t.Ops[:i]
			return t
		}
	}
	return t
}

// exactly runs a tape on fractions; nil, where it divides by 0.
func exactly(t api.Tape, x []*big.Rat) []*big.Rat {
	r := make([]*big.Rat, len(t.Ops))
	for i, o := range t.Ops {
		r[i] = new(big.Rat)
		switch o.Kind {
		case api.OConst:
			r[i].SetFloat64(o.C)
		case api.OVar:
			r[i].Set(x[o.A])
		case api.OAdd:
			r[i].Add(r[o.A], r[o.B])
		case api.OSub:
			r[i].Sub(r[o.A], r[o.B])
		case api.OMul:
			r[i].Mul(r[o.A], r[o.B])
		case api.ODiv:
			if r[o.B].Sign() == 0 {
				return nil
			}
			r[i].Quo(r[o.A], r[o.B])
		}
	}
	out := make([]*big.Rat, t.N)
	for i, k := range t.Out {
		out[i] = r[k]
	}
	return out
}

func TestCheck(t *testing.T) {
	good := api.Tape{N: 2, Ops: ops(load(0), load(1), constant(2.5), op(api.OAdd, 0, 1), op(api.OSub, 3, 2), op(api.OMul, 4, 4), op(api.ODiv, 0, 5)), Out: list(6, 0)}
	if !tape.Check(good) {
		t.Fatal("P301: a field is refused")
	}
	full := api.Tape{N: 1, Ops: make([]api.Op, 60), Out: list(59)}
	if !tape.Check(full) {
		t.Error("P301: 60 operations are refused")
	}
	wrong := map[string]func(p *api.Tape){
		"no variable":          func(p *api.Tape) { p.N, p.Out = 0, nil },
		"five variables":       func(p *api.Tape) { p.N, p.Out = 5, list(0, 0, 0, 0, 0) },
		"N below 0":            func(p *api.Tape) { p.N, p.Out = -1, nil },
		"61 operations":        func(p *api.Tape) { p.Ops = append(p.Ops, make([]api.Op, 54)...) },
		"an Out too few":       func(p *api.Tape) { p.Out = list(6) },
		"an Out too many":      func(p *api.Tape) { p.Out = list(6, 0, 1) },
		"an Out below 0":       func(p *api.Tape) { p.Out[1] = -1 },
		"an Out behind all":    func(p *api.Tape) { p.Out[0] = 7 },
		"a constant NaN":       func(p *api.Tape) { p.Ops[2].C = nan },
		"a constant infinite":  func(p *api.Tape) { p.Ops[2].C = -inf },
		"a constant's A":       func(p *api.Tape) { p.Ops[2].A = 1 },
		"a constant's B":       func(p *api.Tape) { p.Ops[2].B = 1 },
		"variable -1":          func(p *api.Tape) { p.Ops[0].A = -1 },
		"variable N":           func(p *api.Tape) { p.Ops[0].A = 2 },
		"a variable's B":       func(p *api.Tape) { p.Ops[0].B = 1 },
		"a variable's C":       func(p *api.Tape) { p.Ops[0].C = 1 },
		"a variable's C NaN":   func(p *api.Tape) { p.Ops[0].C = nan },
		"its own number as A":  func(p *api.Tape) { p.Ops[3].A = 3 },
		"its own number as B":  func(p *api.Tape) { p.Ops[6].B = 6 },
		"A below 0":            func(p *api.Tape) { p.Ops[4].A = -1 },
		"B below 0":            func(p *api.Tape) { p.Ops[5].B = -1 },
		"a sum's C":            func(p *api.Tape) { p.Ops[3].C = 1 },
		"a difference's C":     func(p *api.Tape) { p.Ops[4].C = 1 },
		"a product's C":        func(p *api.Tape) { p.Ops[5].C = 1 },
		"a quotient's C":       func(p *api.Tape) { p.Ops[6].C = least },
		"kind 6":               func(p *api.Tape) { p.Ops[6].Kind = 6 },
		"kind -1":              func(p *api.Tape) { p.Ops[6].Kind = -1 },
		"no operation":         func(p *api.Tape) { p.Ops = nil },
		"nothing":              func(p *api.Tape) { *p = api.Tape{} },
		"a later one's number": func(p *api.Tape) { p.Ops[3].B = 5 },
	}
	for name, change := range wrong {
		p := clone(good)
		change(&p)
		if tape.Check(p) {
			t.Errorf("P301: %s is taken", name)
		}
		quiet(t, name, func() {
			tape.Eval(p, row(1, 2))
			tape.EvalIv(p, ivs(1, 2))
		})
	}
	for n := 1; n <= 4; n++ {
		if p := someTape(&dice{uint64(n)}, n, 9); !tape.Check(p) {
			t.Errorf("P301: %d variables are refused", n)
		}
	}
}

func TestEval(t *testing.T) {
	p := api.Tape{N: 2, Ops: ops(load(0), load(1), constant(0.1), op(api.OAdd, 0, 1), op(api.OSub, 0, 1), op(api.OMul, 3, 2), op(api.ODiv, 4, 1)), Out: list(5, 6)}
	d := &dice{21}
	for range 3000 {
		x, y := d.any(), d.any()
		if got, want := tape.Eval(p, row(x, y)), row((x+y)*0.1, (x-y)/y); !sameRow(got, want) {
			t.Fatalf("P301: Eval at %v, %v: %v, not %v", x, y, got, want)
		}
	}
	if got := tape.Eval(p, row(1, 0)); !sameRow(got, row(0.1, inf)) {
		t.Errorf("P301: by 0: %v", got)
	}
	one := api.Tape{N: 1, Ops: ops(constant(3), load(0), op(api.OMul, 1, 1), op(api.OSub, 2, 0)), Out: list(3)}
	x := 1 + math.Ldexp(1, -30) // a fused product would tell 2^-60 more
	if got := tape.Eval(one, row(x)); got[0] != 1+math.Ldexp(1, -29)-3 {
		t.Errorf("W1: %v", got)
	}
}

func TestEvalIv(t *testing.T) {
	p := api.Tape{N: 1, Ops: ops(load(0), constant(2), op(api.OMul, 0, 0), op(api.ODiv, 1, 2)), Out: list(3)}
	down1, up4 := down(1), up(4)
	want := cornersOf(2/down1, 2/up4)
	if got := tape.EvalIv(p, []api.Iv{{Lo: 1, Hi: 2}}); len(got) != 1 || !sameIv(got[0], want) {
		t.Errorf("P301: EvalIv: %v, not %v", got, want)
	}
	if got := tape.EvalIv(p, []api.Iv{{Lo: -1, Hi: 2}}); !sameIv(got[0], wholeIv) {
		t.Errorf("P301: by what may be 0: %v", got)
	}
	c := api.Tape{N: 1, Ops: ops(constant(0.1)), Out: list(0)}
	if got := tape.EvalIv(c, []api.Iv{wholeIv}); !sameIv(got[0], point(0.1)) {
		t.Errorf("P301: a constant: %v", got)
	}
	d := &dice{22}
	for range 3000 {
		n := 1 + d.of(4)
		p, x, at := someTape(d, n, d.of(7)), make([]api.Iv, n), make([]*big.Rat, n)
		for i := range x {
			x[i] = right(d.small)
			at[i] = within(d, x[i])
		}
		got, want := tape.EvalIv(p, x), exactly(p, at)
		for i := range want {
			if !holds(got[i], want[i]) {
				t.Fatalf("P302: %v at %v: %v", p, x, got)
			}
		}
	}
}

func TestTapeRules(t *testing.T) {
	d := &dice{23}
	p, x := roomy(someTape(d, 3, 5)), roomy(row(1, 2, 3))
	p.Out[1] = p.Out[0]
	v := roomy(points(x))
	pure(t, "Eval", []any{p, x}, func() []any { return []any{tape.Eval(p, x)} })
	pure(t, "EvalIv", []any{p, v}, func() []any { return []any{tape.EvalIv(p, v)} })
	for range 3000 {
		p := wildTape(d)
		x := reals(d.of(6), d.any)
		pure(t, "Eval", []any{p, x}, func() []any { return []any{tape.Check(p), tape.Eval(p, x)} })
		pure(t, "EvalIv", []any{p, x}, func() []any { return []any{tape.EvalIv(p, points(x))} })
	}
}
