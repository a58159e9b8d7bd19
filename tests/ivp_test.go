package tests

import (
	"math"
	"testing"

	"envelope/api"
	"envelope/bound"
	"envelope/iv"
	"envelope/ivp"
	"envelope/nord"
	"envelope/step"
	"envelope/watch"
)

// endedOf is chapter 12's words on Go.
func endedOf(p api.Problem, r ivp.Run, most int) ivp.Ended {
	var out ivp.Ended
	for r.S.N.At == 0 && r.Next < len(p.Outs) && p.Outs[r.Next] == 0 {
		out.Outs = append(out.Outs, api.Out{Y: p.Y})
		r.Next++
	}
	for made := 0; r.S.N.At < p.End && made < most; made++ {
		if r.Attempts == p.Most {
			out.E = api.MaxSteps
			break
		}
		r.Attempts++
		tried := step.Try(p, r.S)
		if tried.E != api.OK {
			r.S, out.E = tried.S, tried.E
			break
		}
		if !tried.Taken {
			r.S = tried.S
			continue
		}
		n := tried.N
		parts, e := bound.Step(p, n, r.Last, r.Bound)
		if e != api.OK {
			out.E = e
			break
		}
		if parts.Bound > p.Cap {
			out.E = api.OverCap
			break
		}
		r.S, r.Last, r.Bound = tried.S, n.Z[0], parts.Bound
		for ; r.Next < len(p.Outs) && p.Outs[r.Next] <= n.At; r.Next++ {
			time := p.Outs[r.Next]
			s := float64(time-n.At) / float64(n.Step)
			o := api.Out{At: time, Y: nord.At(n.Z, s)}
			for i, y := range o.Y {
				v := point(n.Z[n.Order][i])
				for j := n.Order - 1; j >= 0; j-- {
					v = iv.Add(iv.Mul(v, point(s)), point(n.Z[j][i]))
				}
				o.Bound = max(o.Bound, up(parts.Bound+iv.Mag(iv.Sub(v, point(y)))))
			}
			out.Outs = append(out.Outs, o)
		}
	}
	out.Run = r
	return out
}

// asking asks p for outputs at so many times, from 0 to its end.
func asking(p api.Problem, n int) api.Problem {
	p.Outs = nil
	for i := range n {
		p.Outs = append(p.Outs, p.End/(n-1)*i)
	}
	return p
}

// someProblem is one that ivp.Check takes.
func someProblem(d *dice) api.Problem {
	p := problem([]api.Tape{decay(3), turning(), pendulous(), decay(-2), decay(200), someTape(d, 1+d.of(3), 6)}[d.of(6)])
	p.Y = reals(p.Tape.N, d.small)
	p.Box = nil
	for range p.Tape.N {
		p.Box = append(p.Box, api.Iv{Lo: -2 - float64(d.of(30)), Hi: 2 + float64(d.of(30))})
	}
	p.First = 1 << (18 + d.of(14))
	p.Least = p.First >> d.of(18)
	p.Atol, p.Rtol = math.Ldexp(1, -d.of(30)), math.Ldexp(1, -d.of(30))
	p.End = 1 + d.of(4<<30)
	p.Most = 1 + d.of(200)
	p.Cap = math.Ldexp(1, 2-d.of(20))
	ahead := 0
	for range d.of(8) {
		p.Outs = append(p.Outs, ahead)
		if d.of(3) > 0 {
			ahead += d.of((p.End-ahead)/4 + 1)
		}
	}
	if d.of(3) == 0 {
		p.Outs = append(p.Outs, p.End)
	}
	return p
}

func TestIvpCheck(t *testing.T) {
	good := asking(problem(turning(), 1, -1), 5)
	good.Outs = append(good.Outs, good.End)
	if !ivp.Check(good) {
		t.Fatal("P1201: a problem is refused")
	}
	type change = func(p *api.Problem)
	for name, f := range map[string]change{
		"End 1, no outs":   func(p *api.Problem) { p.End, p.Outs = 1, nil },
		"End 2^40":         func(p *api.Problem) { p.End = 1 << 40 },
		"First 2^32":       func(p *api.Problem) { p.First = 1 << 32 },
		"Least 1":          func(p *api.Problem) { p.Least = 1 },
		"First 1":          func(p *api.Problem) { p.Least, p.First = 1, 1 },
		"Least is First":   func(p *api.Problem) { p.Least = p.First },
		"Rtol 0":           func(p *api.Problem) { p.Rtol = 0 },
		"Most 1":           func(p *api.Problem) { p.Most = 1 },
		"Atol least":       func(p *api.Problem) { p.Atol, p.Cap = least, least },
		"Y at Box's ends":  func(p *api.Problem) { p.Y = row(-100, 100) },
		"Box of one point": func(p *api.Problem) { p.Box[0] = point(1) },
		"1000 outs":        func(p *api.Problem) { p.Outs = make([]int, 1000) },
		"outs the same":    func(p *api.Problem) { p.Outs = list(0, 0, 5, 5) },
	} {
		p := clone(good)
		f(&p)
		if !ivp.Check(p) {
			t.Errorf("P1201: %s is refused", name)
		}
	}
	for name, f := range map[string]change{
		"nothing":             func(p *api.Problem) { *p = api.Problem{} },
		"a wrong tape":        func(p *api.Problem) { p.Tape.Out[0] = 9 },
		"a Box too few":       func(p *api.Problem) { p.Box = p.Box[:1] },
		"a Box too many":      func(p *api.Problem) { p.Box = append(p.Box, p.Box[0]) },
		"a Y too few":         func(p *api.Problem) { p.Y = p.Y[:1] },
		"a Y too many":        func(p *api.Problem) { p.Y = append(p.Y, 0) },
		"Box wrong way":       func(p *api.Problem) { p.Box[1] = api.Iv{Lo: 1, Hi: -1} },
		"Box NaN":             func(p *api.Problem) { p.Box[1].Lo = nan },
		"Box from -Inf":       func(p *api.Problem) { p.Box[0].Lo = -inf },
		"Box to Inf":          func(p *api.Problem) { p.Box[1].Hi = inf },
		"Y below Box":         func(p *api.Problem) { p.Y[0] = down(-100) },
		"Y above Box":         func(p *api.Problem) { p.Y[1] = up(100) },
		"Y NaN":               func(p *api.Problem) { p.Y[1] = nan },
		"End 0":               func(p *api.Problem) { p.End, p.Outs = 0, nil },
		"End above 2^40":      func(p *api.Problem) { p.End = 1<<40 + 1 },
		"First 3":             func(p *api.Problem) { p.First, p.Least = 3, 1 },
		"First 2^33":          func(p *api.Problem) { p.First = 1 << 33 },
		"First 0":             func(p *api.Problem) { p.First, p.Least = 0, 0 },
		"Least 0":             func(p *api.Problem) { p.Least = 0 },
		"Least 3":             func(p *api.Problem) { p.Least = 3 },
		"Least above First":   func(p *api.Problem) { p.Least = 2 * p.First },
		"Least below 0":       func(p *api.Problem) { p.Least = math.MinInt },
		"First below 0":       func(p *api.Problem) { p.First = math.MinInt },
		"Atol 0":              func(p *api.Problem) { p.Atol = 0 },
		"Atol below 0":        func(p *api.Problem) { p.Atol = -1 },
		"Atol infinite":       func(p *api.Problem) { p.Atol = inf },
		"Atol NaN":            func(p *api.Problem) { p.Atol = nan },
		"Rtol below 0":        func(p *api.Problem) { p.Rtol = -least },
		"Rtol infinite":       func(p *api.Problem) { p.Rtol = inf },
		"Rtol NaN":            func(p *api.Problem) { p.Rtol = nan },
		"Cap 0":               func(p *api.Problem) { p.Cap = 0 },
		"Cap infinite":        func(p *api.Problem) { p.Cap = inf },
		"Cap NaN":             func(p *api.Problem) { p.Cap = nan },
		"Most 0":              func(p *api.Problem) { p.Most = 0 },
		"Most 10001":          func(p *api.Problem) { p.Most = 10001 },
		"1001 outs":           func(p *api.Problem) { p.Outs = make([]int, 1001) },
		"an out below 0":      func(p *api.Problem) { p.Outs[0] = -1 },
		"an out behind End":   func(p *api.Problem) { p.Outs[5] = p.End + 1 },
		"an out that is less": func(p *api.Problem) { p.Outs[3] = p.Outs[2] - 1 },
	} {
		p := clone(good)
		f(&p)
		if ivp.Check(p) {
			t.Errorf("P1201: %s is taken", name)
		}
		if got := ivp.Solve(p); shown(got, false) != shown(ivp.Ended{E: api.BadInput}, false) {
			t.Errorf("P1202: %s: %v", name, got)
		}
		quiet(t, name, func() { ivp.Begin(p); ivp.Go(p, ivp.Begin(good), 3) })
	}
	want := ivp.Run{S: step.State{N: nord.Start(good.Tape, good.Y, good.First)}, Last: good.Y}
	if got := ivp.Begin(good); shown(got, false) != shown(want, false) {
		t.Errorf("P1201: Begin: %v, not %v", got, want)
	}
}

func TestGoWords(t *testing.T) {
	d := &dice{121}
	seen := map[api.Errno]int{}
	told := 0
	for range 1500 {
		p := someProblem(d)
		if !ivp.Check(p) {
			t.Fatalf("P1201: %v is refused", p)
		}
		got, want := ivp.Solve(p), endedOf(p, ivp.Begin(p), p.Most)
		if want.E == api.OK && want.Run.S.N.At < p.End {
			want.E = api.MaxSteps
		}
		if shown(got, false) != shown(want, false) {
			t.Fatalf("P1202: %v: %v, not %v", p, got, want)
		}
		seen[got.E]++
		told += len(got.Outs)
		var r, also = ivp.Begin(p), ivp.Begin(p)
		for range 20 { // in pieces, and on behind an error
			most := d.of(12) - 1
			got, want := ivp.Go(p, r, most), endedOf(p, also, most)
			if shown(got, false) != shown(want, false) {
				t.Fatalf("P1202: %v from %v: %v, not %v", p, r, got, want)
			}
			r, also = got.Run, want.Run
		}
	}
	for _, e := range []api.Errno{api.OK, api.LeftBox, api.TooSmall, api.MaxSteps, api.Tube, api.OverCap} {
		if seen[e] < 5 {
			t.Errorf("the dice met %v", seen)
		}
	}
	if told < 1000 {
		t.Errorf("the dice met %d outputs", told)
	}
}

func TestSolveEnds(t *testing.T) {
	by := api.Tape{N: 1, Ops: ops(load(0), constant(1), op(api.ODiv, 1, 0)), Out: list(2)}
	square := api.Tape{N: 1, Ops: ops(load(0), op(api.OMul, 0, 0)), Out: list(1)}
	set := func(p api.Problem, f func(p *api.Problem)) api.Problem { f(&p); return asking(p, 9) }
	for _, x := range []struct {
		name string
		p    api.Problem
		want api.Errno
	}{
		{"to its end", asking(problem(turning(), 1, 0), 9), api.OK},
		{"nothing", api.Problem{}, api.BadInput},
		{"1 / 0", asking(problem(by, 0), 9), api.NonFinite},
		{"past its box", set(problem(decay(-2), 1), func(p *api.Problem) { p.Box[0].Hi = 8 }), api.LeftBox},
		{"nothing to part", set(problem(decay(-(1<<12)), 1), func(p *api.Problem) { p.First, p.Least = 1<<20, 1<<18 }), api.Singular},
		{"a step too small", set(problem(turning(), 1, 0), func(p *api.Problem) { p.First, p.Least, p.Atol, p.Rtol = 1<<29, 1<<29, 1e-12, 0 }), api.TooSmall},
		{"too many attempts", set(problem(turning(), 1, 0), func(p *api.Problem) { p.Most = 20 }), api.MaxSteps},
		{"no tube", set(problem(api.Tape{N: 1, Ops: ops(load(0), constant(-1), op(api.ODiv, 1, 0)), Out: list(2)}, 1), func(p *api.Problem) { p.Least = 1 }), api.Tube},
		{"a bound too great", set(problem(turning(), 1, 0), func(p *api.Problem) { p.Cap = 1e-7 }), api.OverCap},
		{"without end", set(problem(square, 1), func(p *api.Problem) { p.Box[0].Hi = 1e9 }), api.OverCap},
	} {
		got := ivp.Solve(x.p)
		if got.E != x.want {
			t.Errorf("P1202: %s: %v at %d by %d attempts", x.name, got.E, got.Run.S.N.At, got.Run.Attempts)
		}
		if x.want == api.OK && len(got.Outs) != len(x.p.Outs) {
			t.Errorf("P1202: %s: %d outputs", x.name, len(got.Outs))
		}
		if x.want != api.OK && x.want != api.BadInput && (got.Run.S.N.At >= x.p.End || got.Run.Next != len(got.Outs)) {
			t.Errorf("P1202: %s: %v", x.name, got.Run)
		}
	}
	p := problem(turning(), 1, 0)
	p.Most = 7
	if got := ivp.Solve(p); got.E != api.MaxSteps || got.Run.Attempts != 7 {
		t.Errorf("P1202: seven attempts: %v", got)
	}
	if got := ivp.Go(p, ivp.Begin(p), 7); got.E != api.OK {
		t.Errorf("P1202: seven attempts by Go: %v", got.E)
	}
	if got := ivp.Go(p, ivp.Begin(p), 8); got.E != api.MaxSteps || got.Run.Attempts != 7 {
		t.Errorf("P1202: an eighth attempt: %v", got)
	}
	p.Outs = list(0, 0, 1)
	for _, most := range []int{0, -1, math.MinInt} {
		got := ivp.Go(p, ivp.Begin(p), most)
		if got.E != api.OK || len(got.Outs) != 2 || got.Run.Next != 2 || got.Run.Attempts != 0 {
			t.Errorf("P1202: %d attempts: %v", most, got)
		}
		if again := ivp.Go(p, got.Run, most); len(again.Outs) != 0 {
			t.Errorf("P1202: told twice: %v", again)
		}
	}
}

// TestSolveEdges: what is due at a step's end is told there; a run that comes to its end exactly has ended; a bound that is Cap is not above it.
func TestSolveEdges(t *testing.T) {
	p := problem(api.Tape{N: 1, Ops: ops(constant(1)), Out: list(0)}, 3)
	p.End, p.Most, p.Outs = 2*p.First, 2, list(0, p.First/2, p.First, p.First+1, 2*p.First)
	one := ivp.Go(p, ivp.Begin(p), 1)
	if len(one.Outs) != 3 || one.Run.Next != 3 || one.Outs[2].At != p.First || one.Outs[2].Y[0] != 3+math.Ldexp(1, -10) {
		t.Errorf("P1202: at a step's end: %v", one)
	}
	whole := ivp.Solve(p)
	if whole.E != api.OK || whole.Run.Attempts != 2 || whole.Run.S.N.At != p.End || len(whole.Outs) != 5 {
		t.Errorf("P1202: to its end exactly: %v", whole)
	}
	if outs, e := watch.Watch(p, 5); e != api.OK || len(outs) != 5 {
		t.Errorf("P1401: to its end exactly: %v, %v", outs, e)
	}
	if on := ivp.Go(p, whole.Run, 5); on.E != api.OK || shown(on.Run, false) != shown(whole.Run, false) || len(on.Outs) != 0 {
		t.Errorf("P1202: on from its end: %v", on)
	}
	p.Cap = one.Run.Bound
	if got := ivp.Go(p, ivp.Begin(p), 1); got.E != api.OK || len(got.Outs) != 3 {
		t.Errorf("P1202: a bound of Cap: %v", got)
	}
	p.Cap = down(p.Cap)
	got := ivp.Go(p, ivp.Begin(p), 1)
	want := ivp.Begin(p)
	want.Attempts, want.Next = 1, 1
	if got.E != api.OverCap || len(got.Outs) != 1 || shown(got.Run, false) != shown(want, false) {
		t.Errorf("P1202: a bound above Cap: %v", got)
	}
}

// TestSolveHolds: solutions that are known are off what is told by no more than the bound.
func TestSolveHolds(t *testing.T) {
	for _, x := range []struct {
		name string
		p    api.Problem
		at   func(s float64) []float64
	}{
		{"decay", problem(decay(3), 2), func(s float64) []float64 { return row(2 * math.Exp(-3*s)) }},
		{"stiff decay", problem(decay(1000), 2), func(s float64) []float64 { return row(2 * math.Exp(-1000*s)) }},
		{"growth", problem(decay(-1), 1), func(s float64) []float64 { return row(math.Exp(s)) }},
		{"turning", problem(turning(), 1, 0.5), func(s float64) []float64 {
			return row(math.Cos(s)+0.5*math.Sin(s), 0.5*math.Cos(s)-math.Sin(s))
		}},
		{"square", problem(api.Tape{N: 1, Ops: ops(load(0), op(api.OMul, 0, 0)), Out: list(1)}, 0.25), func(s float64) []float64 { return row(1 / (4 - s)) }},
		{"root", problem(api.Tape{N: 1, Ops: ops(load(0), constant(0.5), op(api.ODiv, 1, 0)), Out: list(2)}, 1), func(s float64) []float64 { return row(math.Sqrt(1 + s)) }},
	} {
		p := asking(x.p, 101)
		ended := ivp.Solve(p)
		if len(ended.Outs) < 10 || x.name != "stiff decay" && ended.E != api.OK {
			t.Errorf("T5: %s: %v with %d outputs", x.name, ended.E, len(ended.Outs))
		}
		for i, o := range ended.Outs {
			if o.At != p.Outs[i] || (o.Bound == 0) != (o.At == 0) || o.Bound > p.Cap+1e-9 {
				t.Fatalf("P1202: %s: %v", x.name, o)
			}
			for k, v := range x.at(float64(o.At) / (1 << 30)) {
				if off := math.Abs(v - o.Y[k]); off > o.Bound+1e-14*math.Abs(v) || !iv.In(o.Y[k], p.Box[k]) {
					t.Fatalf("T1: %s at %d: off %v, bound %v", x.name, o.At, off, o.Bound)
				}
			}
		}
	}
}

// TestPieces: which outputs are asked for, and in what pieces a run is made, steers nothing.
func TestPieces(t *testing.T) {
	d := &dice{122}
	for range 400 {
		p := someProblem(d)
		whole := ivp.Go(p, ivp.Begin(p), p.Most+1)
		var outs []api.Out
		part := ivp.Ended{Run: ivp.Begin(p)}
		for part.E == api.OK && part.Run.S.N.At < p.End {
			part = ivp.Go(p, part.Run, 1+d.of(9))
			outs = append(outs, part.Outs...)
		}
		if part.E != whole.E || shown(outs, false) != shown(whole.Outs, false) || shown(part.Run, false) != shown(whole.Run, false) {
			t.Fatalf("P1203: %v: %v, not %v", p, part, whole)
		}
		other := p
		other.Outs = list(0, p.End/3, p.End/2, p.End)
		same := ivp.Go(other, ivp.Begin(other), p.Most+1)
		same.Run.Next = whole.Run.Next
		if same.E != whole.E || shown(same.Run, false) != shown(whole.Run, false) {
			t.Fatalf("T4: %v: %v, not %v", p, same, whole)
		}
	}
}

func TestIvpRules(t *testing.T) {
	d := &dice{123}
	for range 150 {
		p := roomy(someProblem(d))
		pure(t, "Solve", []any{p}, func() []any { return []any{ivp.Check(p), ivp.Begin(p), ivp.Solve(p)} })
		r := roomy(ivp.Go(p, ivp.Begin(p), 5).Run)
		for most := range 9 {
			pure(t, "Go", []any{p, r}, func() []any { return []any{ivp.Go(p, r, most*most-1)} })
		}
	}
	wild := []int{0, 1, -1, 3, 7, 1 << 30, 1 << 42, math.MaxInt, math.MinInt}
	for range 3000 {
		p := someProblem(d)
		p.Most = 20
		r := ivp.Go(p, ivp.Begin(p), d.of(9)).Run
		for range 1 + d.of(3) {
			w := wild[d.of(len(wild))]
			switch d.of(11) {
			case 0:
				r.Attempts = w
			case 1:
				r.Next = w
			case 2:
				r.Last = reals(d.of(4), d.any)
			case 3:
				r.Bound = d.any()
			case 4:
				r.S.N.At = w
			case 5:
				r.S.N.Step = w
			case 6:
				r.S.N.Order = w
			case 7:
				r.S.N.Method = w
			case 8:
				r.S.N.Z = someRows(d, d.of(8), 1+d.of(3), d.any)
			case 9:
				r.S.Good, r.S.Fails, r.S.Slow = w, w, w
			case 10:
				p.Tape = wildTape(d)
			}
		}
		r = roomy(r)
		pure(t, "Go", []any{p, r}, func() []any { return []any{ivp.Go(p, r, math.MaxInt)} })
		pure(t, "Solve", []any{p}, func() []any { return []any{ivp.Solve(p)} })
	}
}
