package fix_test

import (
	"math/big"
	"testing"

	"embrasure/api"
	"embrasure/fix"
)

// corners are vectors of all triples of a few numbers, the ends among them.
func corners() []api.Vec {
	axes := []int64{least, least + 1, -1 << 40, -one, -1, 0, 1, 3 * one / 2, 1 << 32, most}
	var l []api.Vec
	for _, x := range axes {
		for _, y := range axes {
			for _, z := range axes {
				l = append(l, api.Vec{X: x, Y: y, Z: z})
			}
		}
	}
	return l
}

// exactDot is the sum of the three products, as it is.
func exactDot(a, b api.Vec) *big.Int {
	sum := new(big.Int)
	for _, p := range [][2]int64{{a.X, b.X}, {a.Y, b.Y}, {a.Z, b.Z}} {
		sum.Add(sum, new(big.Int).Mul(big.NewInt(p[0]), big.NewInt(p[1])))
	}
	return sum
}

func TestPlusMinusTimes(t *testing.T) {
	a, b := api.Vec{X: 1, Y: -2, Z: 3}, api.Vec{X: 10, Y: 20, Z: -40}
	for i, x := range []struct{ got, want api.Vec }{
		{fix.Plus(a, b), api.Vec{X: 11, Y: 18, Z: -37}},
		{fix.Minus(a, b), api.Vec{X: -9, Y: -22, Z: 43}},
		{fix.Times(a, 2*one), api.Vec{X: 2, Y: -4, Z: 6}},
		{fix.Times(a, one/2), api.Vec{X: 0, Y: -1, Z: 1}},
		{fix.Times(a, -one/2), api.Vec{X: 0, Y: 1, Z: -1}},
		{fix.Times(a, 0), api.Vec{}},
		{fix.Plus(api.Vec{X: most, Y: least, Z: most}, api.Vec{X: 1, Y: -1, Z: least}), api.Vec{X: most, Y: least, Z: -1}},
		{fix.Minus(api.Vec{X: most, Y: least, Z: 0}, api.Vec{X: -1, Y: 1, Z: least}), api.Vec{X: most, Y: least, Z: most}},
		{fix.Times(api.Vec{X: most, Y: least, Z: 1}, 2*one), api.Vec{X: most, Y: least, Z: 2}},
		{fix.Times(api.Vec{X: most, Y: least, Z: 1}, least), api.Vec{X: least, Y: most, Z: -1 << 47}},
	} {
		if x.got != x.want {
			t.Errorf("%d: %v, not %v", i, x.got, x.want)
		}
	}
}

func TestVectorsAreTheirAxes(t *testing.T) {
	for _, a := range corners() {
		b := api.Vec{X: a.Z, Y: a.X, Z: -7}
		if got, want := fix.Plus(a, b), (api.Vec{X: fix.Add(a.X, b.X), Y: fix.Add(a.Y, b.Y), Z: fix.Add(a.Z, b.Z)}); got != want {
			t.Fatalf("Plus of %v and %v: %v, not %v", a, b, got, want)
		}
		if got, want := fix.Minus(a, b), (api.Vec{X: fix.Sub(a.X, b.X), Y: fix.Sub(a.Y, b.Y), Z: fix.Sub(a.Z, b.Z)}); got != want {
			t.Fatalf("Minus of %v and %v: %v, not %v", a, b, got, want)
		}
		for _, n := range []int64{least, -one, -3, 0, one + 1, most} {
			if got, want := fix.Times(a, n), (api.Vec{X: fix.Mul(a.X, n), Y: fix.Mul(a.Y, n), Z: fix.Mul(a.Z, n)}); got != want {
				t.Fatalf("Times of %v by %d: %v, not %v", a, n, got, want)
			}
		}
	}
}

func TestDot(t *testing.T) {
	for i, x := range []struct {
		a, b api.Vec
		want int64
	}{
		{api.Vec{X: 2 * one, Y: 3 * one, Z: 5 * one}, api.Vec{X: 7 * one, Y: -11 * one, Z: 13 * one}, 46 * one},
		{api.Vec{}, api.Vec{X: most, Y: least, Z: 1}, 0},
		// Rounded once, as a whole, not product by product.
		{api.Vec{X: 1, Y: 1, Z: 0}, api.Vec{X: one / 2, Y: one / 2, Z: 0}, 1},
		{api.Vec{X: -1, Y: -1, Z: -1}, api.Vec{X: one / 2, Y: one / 2, Z: one / 2}, -1},
		{api.Vec{X: 1, Y: -1, Z: 0}, api.Vec{X: one, Y: 1, Z: 0}, 0},
		{api.Vec{X: -1, Y: 1, Z: 0}, api.Vec{X: one, Y: 1, Z: 0}, 0},
		{api.Vec{X: -1}, api.Vec{X: one - 1}, 0},
		// Saturated once, as a whole: a product beyond an end may be taken back.
		{api.Vec{X: most, Y: most, Z: 5}, api.Vec{X: most, Y: -most, Z: one}, 5},
		{api.Vec{X: most, Y: most, Z: -5}, api.Vec{X: -most, Y: most, Z: one}, -5},
		{api.Vec{X: least, Y: least, Z: 1}, api.Vec{X: least, Y: most, Z: one}, 1 + 1<<47},
		{api.Vec{X: most, Y: most, Z: most}, api.Vec{X: most, Y: most, Z: most}, most},
		{api.Vec{X: least, Y: least, Z: least}, api.Vec{X: least, Y: least, Z: least}, most},
		{api.Vec{X: least, Y: least, Z: least}, api.Vec{X: most, Y: most, Z: most}, least},
		{api.Vec{X: most, Y: 1}, api.Vec{X: one, Y: one - 1}, most},
		{api.Vec{X: least, Y: -1}, api.Vec{X: one, Y: one - 1}, least},
		{api.Vec{X: least, Y: -1}, api.Vec{X: one, Y: one}, least},
		{api.Vec{X: least, Y: 1}, api.Vec{X: one, Y: one}, least + 1},
	} {
		if got := fix.Dot(x.a, x.b); got != x.want {
			t.Errorf("%d: %d, not %d", i, got, x.want)
		}
	}
}

func TestDotOfCorners(t *testing.T) {
	l := corners()
	for i, a := range l {
		for j := i % 7; j < len(l); j += 7 {
			if got, want := fix.Dot(a, l[j]), saturated(lowered(exactDot(a, l[j]))); got != want {
				t.Fatalf("of %v and %v: %d, not %d", a, l[j], got, want)
			}
		}
	}
}

func TestLong(t *testing.T) {
	for i, x := range []struct {
		v    api.Vec
		want int64
	}{
		{api.Vec{}, 0},
		{api.Vec{X: 1, Y: 1, Z: 1}, 1},
		{api.Vec{X: 2, Y: 3, Z: 6}, 7},
		{api.Vec{X: -2, Y: 3, Z: -6}, 7},
		{api.Vec{X: 2 * one, Y: -3 * one, Z: 6 * one}, 7 * one},
		{api.Vec{X: one, Y: one}, 92681},
		{api.Vec{Y: -1}, 1},
		{api.Vec{X: most}, most},
		{api.Vec{Z: least}, most},
		{api.Vec{Z: least + 1}, most},
		{api.Vec{X: 1 << 32, Y: 1 << 32}, 6074000999},
		{api.Vec{X: 1 << 62, Y: 1 << 62}, 6521908912666391106},
		{api.Vec{X: 5325116328314171699, Y: 5325116328314171699, Z: 5325116328314171699}, most - 2},
		{api.Vec{X: 5325116328314171700, Y: 5325116328314171700, Z: 5325116328314171700}, most},
		{api.Vec{X: 5325116328314171701, Y: 5325116328314171701, Z: 5325116328314171701}, most},
		{api.Vec{X: most, Y: most, Z: most}, most},
		{api.Vec{X: least, Y: least, Z: least}, most},
	} {
		if got := fix.Long(x.v); got != x.want {
			t.Errorf("%d: %d, not %d", i, got, x.want)
		}
	}
}

func TestLongOfCorners(t *testing.T) {
	for _, v := range corners() {
		got, want := fix.Long(v), saturated(new(big.Int).Sqrt(exactDot(v, v)))
		if got != want {
			t.Fatalf("of %v: %d, not %d", v, got, want)
		}
		together := new(big.Int)
		for _, axis := range []int64{v.X, v.Y, v.Z} {
			together.Add(together, new(big.Int).Abs(big.NewInt(axis)))
		}
		if big.NewInt(got).Cmp(together) > 0 {
			t.Fatalf("%v is longer than its axes together: %d", v, got)
		}
	}
}

func TestClamp(t *testing.T) {
	v := api.Vec{X: 3, Y: -4, Z: 12}
	ends := api.Vec{X: most, Y: least, Z: 0}
	for i, x := range []struct {
		v    api.Vec
		most int64
		want api.Vec
	}{
		{v, 5, api.Vec{X: 3, Y: -4, Z: 5}},
		{v, 3, api.Vec{X: 3, Y: -3, Z: 3}},
		{v, 4, api.Vec{X: 3, Y: -4, Z: 4}},
		{v, 12, v},
		{v, most, v},
		{v, 0, api.Vec{}},
		{v, -1, api.Vec{}},
		{v, -5, api.Vec{}},
		{v, least, api.Vec{}},
		{ends, 7, api.Vec{X: 7, Y: -7, Z: 0}},
		{ends, most, api.Vec{X: most, Y: -most, Z: 0}},
		{ends, -1, api.Vec{}},
		{ends, least, api.Vec{}},
		{api.Vec{X: -9, Y: 9, Z: -9}, 8, api.Vec{X: -8, Y: 8, Z: -8}},
	} {
		if got := fix.Clamp(x.v, x.most); got != x.want {
			t.Errorf("%d: %v, not %v", i, got, x.want)
		}
	}
}
