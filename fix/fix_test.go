package fix_test

import (
	"math"
	"math/big"
	"testing"

	"embrasure/api"
	"embrasure/fix"
)

const (
	most  = math.MaxInt64
	least = math.MinInt64
	one   = api.One
)

// edges are numbers around which something may go wrong: both ends, nought, and both neighbours of each power of two and of some roots.
func edges() []int64 {
	l := []int64{least, least + 1, most, most - 1, 0, 3 * one / 2, 5 * one / 2, 92681, 3037000499, 3037000500, 5325116328314171700, 5325116328314171701}
	for i := range 63 {
		n := int64(1) << i
		l = append(l, n-1, n, n+1, -n-1, -n, -n+1)
	}
	return l
}

// saturated is n, or the end that it is beyond.
func saturated(n *big.Int) int64 {
	switch {
	case n.Cmp(big.NewInt(most)) > 0:
		return most
	case n.Cmp(big.NewInt(least)) < 0:
		return least
	}
	return n.Int64()
}

// raised is n times 2^16.
func raised(n int64) *big.Int { return new(big.Int).Lsh(big.NewInt(n), 16) }

// lowered is n divided by 2^16, rounded to nought.
func lowered(n *big.Int) *big.Int { return new(big.Int).Quo(n, big.NewInt(one)) }

func wantMul(a, b int64) int64 {
	return saturated(lowered(new(big.Int).Mul(big.NewInt(a), big.NewInt(b))))
}

func wantDiv(a, b int64) int64 {
	switch {
	case b != 0:
		return saturated(new(big.Int).Quo(raised(a), big.NewInt(b)))
	case a > 0:
		return most
	case a < 0:
		return least
	}
	return 0
}

type pair struct{ a, b, want int64 }

func checkPairs(t *testing.T, f func(a, b int64) int64, l []pair) {
	t.Helper()
	for _, x := range l {
		if got := f(x.a, x.b); got != x.want {
			t.Errorf("of %d and %d: %d, not %d", x.a, x.b, got, x.want)
		}
	}
}

func checkEdges(t *testing.T, f, want func(a, b int64) int64) {
	t.Helper()
	for _, a := range edges() {
		for _, b := range edges() {
			if got, w := f(a, b), want(a, b); got != w {
				t.Fatalf("of %d and %d: %d, not %d", a, b, got, w)
			}
		}
	}
}

func TestAdd(t *testing.T) {
	checkPairs(t, fix.Add, []pair{
		{2, 3, 5}, {2, -3, -1}, {0, 0, 0}, {one, one, 2 * one},
		{most, 1, most}, {1, most, most}, {most, most, most}, {most - 1, 1, most}, {most - 1, 2, most},
		{least, -1, least}, {-1, least, least}, {least, least, least}, {least + 1, -1, least}, {least + 1, -2, least},
		{most, least, -1}, {least, most, -1}, {most, 0, most}, {least, 0, least},
	})
	checkEdges(t, fix.Add, func(a, b int64) int64 {
		return saturated(new(big.Int).Add(big.NewInt(a), big.NewInt(b)))
	})
}

func TestSub(t *testing.T) {
	checkPairs(t, fix.Sub, []pair{
		{5, 3, 2}, {3, 5, -2}, {0, 0, 0}, {-one, one, -2 * one},
		{most, -1, most}, {0, least, most}, {-1, least, most}, {most, least, most}, {-2, least, most - 1},
		{least, 1, least}, {least, most, least}, {-2, most, least}, {-1, most, least}, {0, most, least + 1},
		{most, most, 0}, {least, least, 0}, {least, 0, least},
	})
	checkEdges(t, fix.Sub, func(a, b int64) int64 {
		return saturated(new(big.Int).Sub(big.NewInt(a), big.NewInt(b)))
	})
}

func TestNeg(t *testing.T) {
	for _, a := range edges() {
		if got, want := fix.Neg(a), saturated(new(big.Int).Neg(big.NewInt(a))); got != want {
			t.Errorf("of %d: %d, not %d", a, got, want)
		}
	}
	if fix.Neg(least) != most || fix.Neg(most) != least+1 || fix.Neg(7) != -7 {
		t.Error("an end, or 7")
	}
}

func TestMul(t *testing.T) {
	checkPairs(t, fix.Mul, []pair{
		{3 * one / 2, 5 * one / 2, 15 * one / 4}, {2 * one, -3 * one, -6 * one}, {-2 * one, -3 * one, 6 * one}, {0, most, 0}, {least, 0, 0},
		{1, one - 1, 0}, {-1, one - 1, 0}, {1, 1 - one, 0}, {-3, one / 2, -1}, {3, -one / 2, -1}, {3, one / 2, 1}, {-3, -one / 2, 1},
		{most, one, most}, {least, one, least}, {least, -one, most}, {most, -one, least + 1}, {most, one + 1, most}, {least, one + 1, least},
		{most, most, most}, {least, least, most}, {most, least, least}, {least, most, least},
		{1 << 62, 2 * one, most}, {-1 << 62, 2 * one, least}, {1 << 62, -2 * one, least}, {-1 << 62, -2 * one, most},
	})
	checkEdges(t, fix.Mul, wantMul)
}

func TestDiv(t *testing.T) {
	checkPairs(t, fix.Div, []pair{
		{one, 4 * one, one / 4}, {6 * one, -3 * one, -2 * one}, {-6 * one, -3 * one, 2 * one},
		{one, 3 * one, 21845}, {-one, 3 * one, -21845}, {one, -3 * one, -21845}, {-1, most, 0}, {1, least, 0}, {-1, 2 * one, 0},
		{7, 0, most}, {-7, 0, least}, {0, 0, 0}, {most, 0, most}, {least, 0, least}, {1, 0, most}, {-1, 0, least}, {0, most, 0}, {0, -1, 0},
		{most, 1, most}, {most, -1, least}, {least, 1, least}, {least, -1, most}, {most, one, most}, {least, one, least}, {least, -one, most},
		{most, most, one}, {least, least, one}, {least, most, -one}, {most, least, 1 - one},
		{1 << 46, 1, 1 << 62}, {1 << 47, 1, most}, {-1 << 47, 1, least}, {1 << 47, -1, least}, {-1 << 48, 1, least}, {1 << 48, 1, most},
	})
	checkEdges(t, fix.Div, wantDiv)
}

func TestSqrt(t *testing.T) {
	for _, x := range []struct{ a, want int64 }{
		{0, 0}, {1, 256}, {2, 362}, {one, one}, {2 * one, 92681}, {4 * one, 2 * one}, {one - 1, one - 1}, {9 * one / 4, 3 * one / 2},
		{-1, 0}, {-one, 0}, {least, 0}, {most, 777472127993}, {1 << 62, 1 << 39},
	} {
		if got := fix.Sqrt(x.a); got != x.want {
			t.Errorf("of %d: %d, not %d", x.a, got, x.want)
		}
	}
	for _, a := range edges() {
		want := new(big.Int).Sqrt(raised(max(a, 0))).Int64()
		if got := fix.Sqrt(a); got != want {
			t.Errorf("of %d: %d, not %d", a, got, want)
		}
	}
}

// Squares, and what lies right beside them, are where a root that is rounded goes wrong.
func TestSqrtBesideSquares(t *testing.T) {
	for i := range 40 {
		n := int64(1)<<i + int64(i)
		square := new(big.Int).Mul(big.NewInt(n), big.NewInt(n))
		a := lowered(square).Int64()
		for _, b := range []int64{a - 1, a, a + 1} {
			want := new(big.Int).Sqrt(raised(max(b, 0))).Int64()
			if got := fix.Sqrt(b); got != want {
				t.Errorf("of %d: %d, not %d", b, got, want)
			}
		}
	}
}

func TestEitherWayRound(t *testing.T) {
	for _, a := range edges() {
		for _, b := range edges() {
			if fix.Add(a, b) != fix.Add(b, a) || fix.Mul(a, b) != fix.Mul(b, a) {
				t.Fatalf("of %d and %d", a, b)
			}
		}
	}
}
