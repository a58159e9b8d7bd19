package tests

import (
	"math"
	"math/big"
	"testing"

	"envelope/api"
	"envelope/coef"
)

// methodsTable is the methods' numbers as books have them: pairs of numbers and what divides them.
var methodsTable = map[int][][][2]int{
	api.Adams: {
		{{1, 1}, {1, 1}},
		{{1, 2}, {1, 1}, {1, 2}},
		{{5, 12}, {1, 1}, {3, 4}, {1, 6}},
		{{3, 8}, {1, 1}, {11, 12}, {1, 3}, {1, 24}},
		{{251, 720}, {1, 1}, {25, 24}, {35, 72}, {5, 48}, {1, 120}},
	},
	api.Bdf: {
		{{1, 1}, {1, 1}},
		{{2, 3}, {1, 1}, {1, 3}},
		{{6, 11}, {1, 1}, {6, 11}, {1, 11}},
		{{12, 25}, {1, 1}, {7, 10}, {1, 5}, {1, 50}},
	},
}

func TestCoef(t *testing.T) {
	for method, orders := range methodsTable {
		for i, want := range orders {
			r, ok := coef.Exact(method, i+1)
			l, also := coef.Of(method, i+1)
			if !ok || !also || len(r.Num) != len(want) || len(r.Den) != len(want) || len(l) != len(want) {
				t.Fatalf("P701: method %d, order %d: %v, %v", method, i+1, r, l)
			}
			for k, w := range want {
				if r.Num[k] != w[0] || r.Den[k] != w[1] || l[k] != float64(w[0])/float64(w[1]) {
					t.Errorf("P701: method %d, order %d: %v, %v", method, i+1, r, l)
				}
			}
		}
	}
}

func TestCoefNone(t *testing.T) {
	for _, x := range [][2]int{{api.Adams, 0}, {api.Adams, 6}, {api.Bdf, 0}, {api.Bdf, 5}, {-1, 1}, {2, 1}, {api.Adams, -1}, {api.Bdf, math.MaxInt}, {api.Adams, math.MinInt}, {math.MaxInt, 2}, {math.MinInt, 0}} {
		r, ok := coef.Exact(x[0], x[1])
		l, also := coef.Of(x[0], x[1])
		if ok || also || len(r.Num)+len(r.Den)+len(l) != 0 {
			t.Errorf("P701: method %d, order %d: %v, %v", x[0], x[1], r, l)
		}
	}
}

// lineAt tells the polynomial, or its slope, at s.
func lineAt(r coef.Row, s int64, slope bool) *big.Rat {
	v, power := new(big.Rat), big.NewRat(1, 1)
	for k := range r.Num {
		c := big.NewRat(int64(r.Num[k]), int64(r.Den[k]))
		if slope {
			if k == 0 {
				continue
			}
			c.Mul(c, big.NewRat(int64(k), 1))
		}
		v.Add(v, c.Mul(c, power))
		power = new(big.Rat).Mul(power, big.NewRat(s, 1))
	}
	return v
}

func TestCoefMethod(t *testing.T) {
	one := big.NewRat(1, 1)
	for method, orders := range methodsTable {
		for i := range orders {
			order := i + 1
			r, _ := coef.Exact(method, order)
			if lineAt(r, -1, false).Sign() != 0 || lineAt(r, 0, true).Cmp(one) != 0 {
				t.Errorf("P702: method %d, order %d: %v", method, order, r)
			}
			for s := 1; s <= order; s++ {
				if method == api.Adams && s < order && lineAt(r, int64(-s), true).Sign() != 0 || method == api.Bdf && lineAt(r, int64(-s), false).Sign() != 0 {
					t.Errorf("P702: method %d, order %d at -%d: %v", method, order, s, r)
				}
			}
			for k := range r.Num {
				if r.Den[k] <= 0 || new(big.Int).GCD(nil, nil, big.NewInt(int64(r.Num[k])), big.NewInt(int64(r.Den[k]))).Int64() != 1 {
					t.Errorf("P701: not in lowest terms: %v", r)
				}
			}
		}
	}
	pure(t, "coef", nil, func() []any {
		r, ok := coef.Exact(api.Adams, 5)
		l, also := coef.Of(api.Bdf, 4)
		return []any{r, ok, l, also}
	})
}
