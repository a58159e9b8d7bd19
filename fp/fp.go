// Package fp: single numbers. See doc/01-fp.md.
package fp

import "math"

// float is what the sums below hold for, whatever its width.
type float interface{ ~float32 | ~float64 }

// Up tells the next number above x.
func Up(x float64) float64 { return math.Nextafter(x, math.Inf(1)) }

// Down tells the next number below x.
func Down(x float64) float64 { return math.Nextafter(x, math.Inf(-1)) }

// TwoSum tells a + b, and what its rounding lost.
func TwoSum(a, b float64) (s, e float64) { return sumAndRest(a, b) }

// TwoMul tells a * b, and what its rounding lost.
func TwoMul(a, b float64) (p, e float64) {
	p = a * b
	return p, math.FMA(a, b, -p)
}

// Scale tells x 2^k.
func Scale(x float64, k int) float64 { return math.Ldexp(x, k) }

// Finite tells whether x is a number, and not infinite.
func Finite(x float64) bool { return finite(x) }

// sumAndRest needs no comparison of sizes: v is what of b went into s, whichever of both is the greater one.
func sumAndRest[F float](a, b F) (s, e F) {
	s = a + b
	v := s - a
	return s, (a - (s - v)) + (b - v)
}

// finite holds x against itself: what is infinite, or none, leaves NaN, and that is not 0.
func finite[F float](x F) bool { return x-x == 0 }
