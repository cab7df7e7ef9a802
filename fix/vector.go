package fix

import "embrasure/api"

// Plus is Add of each axis (A2).
func Plus(a, b api.Vec) api.Vec { return each(a, b, Add) }

// Minus is Sub of each axis (A2).
func Minus(a, b api.Vec) api.Vec { return each(a, b, Sub) }

// Times is Mul of each axis by n (A2).
func Times(v api.Vec, n int64) api.Vec {
	return each(v, v, func(x, _ int64) int64 { return Mul(x, n) })
}

// Dot is the sum of the three products, rounded and saturated once, as a whole (A2).
func Dot(a, b api.Vec) int64 {
	// What is above 0 and what is below are summed up apart: either has room in a wide, the signed sum has not.
	var above, below wide
	along(a, b, func(x, y int64) {
		if p := product(size(x), size(y)); apart(x, y) {
			below = below.plus(p)
		} else {
			above = above.plus(p)
		}
	})
	if below.greater(above) {
		return number(below.minus(above).whole(), true)
	}
	return number(above.minus(below).whole(), false)
}

// Long is how long v is, rounded down and saturated (A2).
func Long(v api.Vec) int64 {
	var squares wide
	along(v, v, func(x, y int64) { squares = squares.plus(product(size(x), size(y))) })
	return number(wide{low: squares.root()}, false)
}

// Clamp cuts each axis to most and to its Neg; most below 0 counts as 0 (A2).
func Clamp(v api.Vec, most int64) api.Vec {
	most = max(most, 0)
	return each(v, v, func(x, _ int64) int64 { return max(min(x, most), Neg(most)) })
}

// each is the vector whose axes f makes of those of a and b.
func each(a, b api.Vec, f func(x, y int64) int64) api.Vec {
	return api.Vec{X: f(a.X, b.X), Y: f(a.Y, b.Y), Z: f(a.Z, b.Z)}
}

// along shows f the axes of a and b, one behind the other.
func along(a, b api.Vec, f func(x, y int64)) {
	f(a.X, b.X)
	f(a.Y, b.Y)
	f(a.Z, b.Z)
}
