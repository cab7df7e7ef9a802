// Package fix is layer 1: numbers with sixteen bits behind the point, and vectors of them.
//
// See shared/doc/01-fix.md.
package fix

import (
	"math"
	"math/bits"

	"embrasure/api"
)

// Add is a and b together, saturated (A1).
func Add(a, b int64) int64 {
	sum := a + b
	switch {
	case b > 0 && sum < a:
		return math.MaxInt64
	case b < 0 && sum > a:
		return math.MinInt64
	}
	return sum
}

// Sub is a less b, saturated (A1).
func Sub(a, b int64) int64 {
	rest := a - b
	switch {
	case b < 0 && rest < a:
		return math.MaxInt64
	case b > 0 && rest > a:
		return math.MinInt64
	}
	return rest
}

// Neg is 0 less a, saturated (A1).
func Neg(a int64) int64 { return Sub(0, a) }

// Mul is a times b, rounded to nought and saturated (A1).
func Mul(a, b int64) int64 {
	return number(product(size(a), size(b)).whole(), apart(a, b))
}

// Div is a divided by b, rounded to nought and saturated; by 0 it is the end on a's side (A1).
func Div(a, b int64) int64 {
	if a == 0 {
		return 0
	}
	raised, by := product(size(a), api.One), size(b)
	// Div64 panics where its answer has no room, and by 0: both are beyond the end.
	if raised.high >= by {
		return end(apart(a, b))
	}
	quotient, _ := bits.Div64(raised.high, raised.low, by)
	return number(wide{low: quotient}, apart(a, b))
}

// Sqrt is the root of a, rounded down; 0 of a below 0 (A1).
func Sqrt(a int64) int64 {
	if a < 0 {
		return 0
	}
	return number(wide{low: product(size(a), api.One).root()}, false)
}
