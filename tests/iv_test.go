package tests

import (
	"math"
	"math/big"
	"testing"

	"envelope/api"
	"envelope/iv"
)

var wholeIv = api.Iv{Lo: -inf, Hi: inf}

// point is [x].
func point(x float64) api.Iv { return api.Iv{Lo: x, Hi: x} }

func sameIv(a, b api.Iv) bool { return same(a.Lo, b.Lo) && same(a.Hi, b.Hi) }

// up, down: the numbers beside x, by the library's word.
func up(x float64) float64   { return math.Nextafter(x, inf) }
func down(x float64) float64 { return math.Nextafter(x, -inf) }

// right is some Iv by f.
func right(f func() float64) api.Iv {
	for {
		if a := (api.Iv{Lo: f(), Hi: f()}); a.Lo <= a.Hi {
			return a
		}
	}
}

// within is some number of a, not rounded: a part of 8 of the way from Lo to Hi.
func within(d *dice, a api.Iv) *big.Rat {
	lo, hi := exact(a.Lo, 0), exact(a.Hi, 0)
	way := hi.Sub(hi, lo)
	way.Mul(way, big.NewRat(int64(d.of(9)), 8))
	return lo.Add(lo, way)
}

// holds tells whether x, not rounded, is within a.
func holds(a api.Iv, x *big.Rat) bool {
	lo := a.Lo == -inf || a.Lo != inf && exact(a.Lo, 0).Cmp(x) <= 0
	return lo && (a.Hi == inf || a.Hi != -inf && exact(a.Hi, 0).Cmp(x) >= 0)
}

// cornersOf is chapter 2's words on four numbers.
func cornersOf(c ...float64) api.Iv {
	lo, hi := c[0], c[0]
	for _, x := range c {
		if x != x {
			return wholeIv
		}
		lo, hi = math.Min(lo, x), math.Max(hi, x)
	}
	if lo, hi = down(lo), up(hi); lo <= hi {
		return api.Iv{Lo: lo, Hi: hi}
	}
	return wholeIv
}

func TestMake(t *testing.T) {
	for _, lo := range odd {
		for _, hi := range odd {
			want := lo <= hi
			if got := iv.Right(api.Iv{Lo: lo, Hi: hi}); got != want {
				t.Errorf("P201: Right of %v, %v: %v", lo, hi, got)
			}
			told := wholeIv
			if want {
				told = api.Iv{Lo: lo, Hi: hi}
			}
			if got := iv.Make(lo, hi); !sameIv(got, told) {
				t.Errorf("P201: Make of %v, %v: %v", lo, hi, got)
			}
		}
	}
}

func TestIvWords(t *testing.T) {
	d := &dice{11}
	for range 20000 {
		a, b := right(d.any), right(d.any)
		add, sub := wholeIv, wholeIv
		if lo, hi := down(a.Lo+b.Lo), up(a.Hi+b.Hi); lo <= hi {
			add = api.Iv{Lo: lo, Hi: hi}
		}
		if lo, hi := down(a.Lo-b.Hi), up(a.Hi-b.Lo); lo <= hi {
			sub = api.Iv{Lo: lo, Hi: hi}
		}
		mul := cornersOf(a.Lo*b.Lo, a.Lo*b.Hi, a.Hi*b.Lo, a.Hi*b.Hi)
		div := wholeIv
		if b.Lo > 0 || b.Hi < 0 {
			div = cornersOf(a.Lo/b.Lo, a.Lo/b.Hi, a.Hi/b.Lo, a.Hi/b.Hi)
		}
		join := api.Iv{Lo: math.Min(a.Lo, b.Lo), Hi: math.Max(a.Hi, b.Hi)}
		for name, x := range map[string][2]api.Iv{"Add": {iv.Add(a, b), add}, "Sub": {iv.Sub(a, b), sub}, "Mul": {iv.Mul(a, b), mul}, "Div": {iv.Div(a, b), div}, "Join": {iv.Join(a, b), join}} {
			if !sameIv(x[0], x[1]) {
				t.Fatalf("P201: %s of %v, %v: %v, not %v", name, a, b, x[0], x[1])
			}
		}
		if got, want := iv.Mag(a), math.Max(math.Abs(a.Lo), math.Abs(a.Hi)); got != want {
			t.Fatalf("P201: Mag of %v: %v", a, got)
		}
		if got := iv.Within(a, b); got != (b.Lo <= a.Lo && a.Hi <= b.Hi) {
			t.Fatalf("P201: Within of %v, %v: %v", a, b, got)
		}
		x := d.any()
		if got := iv.In(x, a); got != (a.Lo <= x && x <= a.Hi) {
			t.Fatalf("P201: In of %v, %v: %v", x, a, got)
		}
	}
}

func TestIvEdges(t *testing.T) {
	one, two := point(1), point(2)
	for _, x := range []struct {
		name      string
		got, want api.Iv
	}{
		{"1 + 2", iv.Add(one, two), api.Iv{Lo: down(3), Hi: up(3)}},
		{"0 - 0", iv.Sub(point(0), point(0)), api.Iv{Lo: -least, Hi: least}},
		{"whole * 0", iv.Mul(wholeIv, point(0)), wholeIv},
		{"whole * 1", iv.Mul(wholeIv, one), wholeIv},
		{"1 / 0", iv.Div(one, point(0)), wholeIv},
		{"1 / from 0", iv.Div(one, api.Iv{Lo: 0, Hi: 1}), wholeIv},
		{"1 / to 0", iv.Div(one, api.Iv{Lo: -1, Hi: minus}), wholeIv},
		{"1 / from -1 to 1", iv.Div(one, api.Iv{Lo: -1, Hi: 1}), wholeIv},
		{"1 / whole", iv.Div(one, wholeIv), wholeIv},
		{"1 / from 1 to infinite", iv.Div(one, api.Iv{Lo: 1, Hi: inf}), api.Iv{Lo: -least, Hi: up(1)}},
		{"most + most", iv.Add(point(most), point(most)), api.Iv{Lo: most, Hi: inf}},
		{"infinite less infinite", iv.Sub(point(inf), point(inf)), wholeIv},
		{"whole + whole", iv.Add(wholeIv, wholeIv), wholeIv},
		{"-3 .. 2 by -5 .. 7", iv.Mul(api.Iv{Lo: -3, Hi: 2}, api.Iv{Lo: -5, Hi: 7}), api.Iv{Lo: down(-21), Hi: up(15)}},
		{"6 .. 8 by -4 .. -2", iv.Div(api.Iv{Lo: 6, Hi: 8}, api.Iv{Lo: -4, Hi: -2}), api.Iv{Lo: down(-4), Hi: up(-1.5)}},
		{"join", iv.Join(two, one), api.Iv{Lo: 1, Hi: 2}},
	} {
		if !sameIv(x.got, x.want) {
			t.Errorf("P201: %s: %v, not %v", x.name, x.got, x.want)
		}
	}
	if iv.Mag(api.Iv{Lo: -3, Hi: 2}) != 3 || iv.Mag(api.Iv{Lo: -3, Hi: 4}) != 4 || iv.Mag(wholeIv) != inf {
		t.Error("P201: Mag")
	}
	if iv.In(nan, wholeIv) || !iv.In(1, one) || iv.In(up(1), one) || !iv.In(inf, wholeIv) {
		t.Error("P201: In")
	}
	if !iv.Within(one, one) || iv.Within(wholeIv, one) || !iv.Within(one, wholeIv) {
		t.Error("P201: Within")
	}
}

func TestIvHolds(t *testing.T) {
	d := &dice{12}
	for range 5000 {
		a, b := right(d.real), right(d.real)
		x, y := within(d, a), within(d, b)
		if got := iv.Add(a, b); !holds(got, new(big.Rat).Add(x, y)) {
			t.Fatalf("P203: %v + %v: %v", a, b, got)
		}
		if got := iv.Sub(a, b); !holds(got, new(big.Rat).Sub(x, y)) {
			t.Fatalf("P203: %v - %v: %v", a, b, got)
		}
		if got := iv.Mul(a, b); !holds(got, new(big.Rat).Mul(x, y)) {
			t.Fatalf("P203: %v * %v: %v", a, b, got)
		}
		if y.Sign() != 0 {
			if got := iv.Div(a, b); !holds(got, new(big.Rat).Quo(x, y)) {
				t.Fatalf("P203: %v / %v: %v", a, b, got)
			}
		}
	}
}

// expOf is chapter 2's words on Exp.
func expOf(x float64) float64 {
	if x != x || x >= 512 {
		return inf
	}
	y := iv.Div(point(1), iv.Sub(point(1), iv.Div(point(x), point(1024))))
	for range 10 {
		y = iv.Mul(y, y)
	}
	return y.Hi
}

func TestExp(t *testing.T) {
	for _, x := range append(odd, 511, down(512), up(512), 700, -512, -700, -5000, 0.001, 20, -20) {
		if got := iv.Exp(x); !same(got, expOf(x)) {
			t.Errorf("P202: Exp of %v: %v, not %v", x, got, expOf(x))
		}
	}
	if iv.Exp(nan) != inf || iv.Exp(512) != inf || iv.Exp(inf) != inf || iv.Exp(511) == inf {
		t.Error("P202: where Exp is infinite")
	}
	if x := iv.Exp(0); x < 1 || x > 1+1e-9 {
		t.Errorf("P202: Exp of 0: %v", x)
	}
	d := &dice{13}
	for range 5000 {
		x := d.small() * float64(1+d.of(200))
		if e := math.Exp(x); iv.Exp(x) < e*(1-1e-15) {
			t.Fatalf("P203: Exp of %v: %v, but e^x is %v", x, iv.Exp(x), e)
		}
	}
}

func TestIvWrong(t *testing.T) {
	for _, lo := range odd {
		for _, hi := range odd {
			a := api.Iv{Lo: lo, Hi: hi}
			for _, b := range []api.Iv{{Lo: hi, Hi: lo}, point(nan), wholeIv, {Lo: 1, Hi: -1}} {
				quiet(t, "iv", func() {
					iv.Add(a, b)
					iv.Sub(a, b)
					iv.Mul(a, b)
					iv.Div(a, b)
					iv.Join(a, b)
					iv.Mag(a)
					iv.Within(a, b)
				})
			}
		}
	}
}
