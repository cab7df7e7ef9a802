package fix

import (
	"math"
	"math/bits"
)

// wide is a whole number from 0 to 2^128 - 1: three products of two int64 have room in it together.
type wide struct{ high, low uint64 }

// product is a times b, exact.
func product(a, b uint64) wide {
	high, low := bits.Mul64(a, b)
	return wide{high, low}
}

func (a wide) plus(b wide) wide {
	low, carry := bits.Add64(a.low, b.low, 0)
	high, _ := bits.Add64(a.high, b.high, carry)
	return wide{high, low}
}

// minus is a less b, which must not be greater.
func (a wide) minus(b wide) wide {
	low, borrow := bits.Sub64(a.low, b.low, 0)
	high, _ := bits.Sub64(a.high, b.high, borrow)
	return wide{high, low}
}

func (a wide) greater(b wide) bool {
	if a.high != b.high {
		return a.high > b.high
	}
	return a.low > b.low
}

// whole drops the sixteen bits by which a product of two numbers has too many behind the point.
func (a wide) whole() wide {
	return wide{a.high >> 16, a.high<<48 | a.low>>16}
}

// root is the greatest number whose square is not above a.
func (a wide) root() uint64 {
	var n uint64
	for bit := uint64(1) << 63; bit > 0; bit >>= 1 {
		if !product(n|bit, n|bit).greater(a) {
			n |= bit
		}
	}
	return n
}

// size is n without its sign; that of the least int64, too, has room in it.
func size(n int64) uint64 {
	if n < 0 {
		return -uint64(n)
	}
	return uint64(n)
}

// apart tells whether a and b are on two sides of 0, so that their product and quotient are not above it.
func apart(a, b int64) bool { return (a < 0) != (b < 0) }

// end is the greatest int64, or the least one.
func end(below bool) int64 {
	if below {
		return math.MinInt64
	}
	return math.MaxInt64
}

// number is the number of this size, above 0 or below, saturated.
func number(size wide, below bool) int64 {
	switch {
	case size.high > 0 || size.low > math.MaxInt64:
		return end(below)
	case below:
		return -int64(size.low)
	}
	return int64(size.low)
}
