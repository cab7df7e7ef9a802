package ring_test

import (
	"math"
	"slices"
	"testing"

	"embrasure/ring"
)

// pushed is a ring of at most most, to which 1, 2, 3 and so on up to n were pushed.
func pushed(most, n int) *ring.Ring[int] {
	r := ring.New[int](most)
	for i := range n {
		r.Push(i + 1)
	}
	return r
}

// last are the numbers of 1 up to n that a ring of at most most has.
func last(most, n int) []int {
	var l []int
	for i := max(1, n-max(most, 1)+1); i <= n; i++ {
		l = append(l, i)
	}
	return l
}

func TestRingExample(t *testing.T) {
	r := ring.New[string](2)
	for _, x := range []struct {
		push, out string
		is        bool
		left      []string
	}{
		{"a", "", false, []string{"a"}},
		{"b", "", false, []string{"a", "b"}},
		{"c", "a", true, []string{"b", "c"}},
	} {
		out, is := r.Push(x.push)
		if out != x.out || is != x.is {
			t.Errorf("Push of %s: %q %v", x.push, out, is)
		}
		if got := slices.Collect(r.All()); !slices.Equal(got, x.left) {
			t.Errorf("behind %s: %q, not %q", x.push, got, x.left)
		}
	}
}

func TestNewRingIsEmpty(t *testing.T) {
	for _, most := range []int{math.MinInt, -1, 0, 1, 5, math.MaxInt} {
		r := ring.New[int](most)
		if r.Len() != 0 || len(slices.Collect(r.All())) != 0 {
			t.Errorf("of %d: it has things", most)
		}
		if x, is := r.At(0); x != 0 || is {
			t.Errorf("of %d: At tells %d %v", most, x, is)
		}
	}
}

func TestPushTellsWhoGoes(t *testing.T) {
	for _, most := range []int{math.MinInt, -1, 0, 1, 2, 3, 4, 5, 8} {
		room := max(most, 1)
		r := ring.New[int](most)
		for n := 1; n <= 3*room+2; n++ {
			out, is := r.Push(n)
			if want := max(n-room, 0); out != want || is != (want > 0) {
				t.Fatalf("of %d: Push of %d: %d %v", most, n, out, is)
			}
			want := last(most, n)
			if got := slices.Collect(r.All()); !slices.Equal(got, want) {
				t.Fatalf("of %d: behind %d: %v, not %v", most, n, got, want)
			}
			if r.Len() != len(want) {
				t.Fatalf("of %d: behind %d: Len %d", most, n, r.Len())
			}
		}
	}
}

// A zero thing that goes is told by the true alone.
func TestPushOfZeroThings(t *testing.T) {
	r := ring.New[int](1)
	if out, is := r.Push(0); out != 0 || is {
		t.Errorf("first: %d %v", out, is)
	}
	if out, is := r.Push(0); out != 0 || !is {
		t.Errorf("second: %d %v", out, is)
	}
}

func TestRingOfHugeMost(t *testing.T) {
	r := pushed(math.MaxInt, 1000)
	if got := slices.Collect(r.All()); !slices.Equal(got, last(1000, 1000)) {
		t.Errorf("%v", got)
	}
	if out, is := r.Push(1001); out != 0 || is {
		t.Errorf("%d %v", out, is)
	}
}

func TestAtEveryPlace(t *testing.T) {
	for _, most := range []int{-3, 0, 1, 2, 3, 7} {
		for n := range 3*max(most, 1) + 2 {
			r, want := pushed(most, n), last(most, n)
			for i, w := range want {
				if x, is := r.At(i); x != w || !is {
					t.Errorf("of %d, %d pushed: At %d: %d %v", most, n, i, x, is)
				}
			}
			for _, i := range []int{math.MinInt, -len(want) - 1, -len(want) - 2, -2, -1, len(want), len(want) + 1, 2 * len(want), math.MaxInt} {
				if i >= 0 && i < len(want) {
					continue
				}
				if x, is := r.At(i); x != 0 || is {
					t.Errorf("of %d, %d pushed: At %d: %d %v", most, n, i, x, is)
				}
			}
		}
	}
}

func TestRingAllTwiceAndStopped(t *testing.T) {
	for n := range 9 {
		r, want := pushed(4, n), last(4, n)
		all := r.All()
		for stop := range len(want) {
			var got []int
			for x := range all {
				got = append(got, x)
				if len(got) > stop {
					break
				}
			}
			if !slices.Equal(got, want[:stop+1]) {
				t.Errorf("%d pushed, stopped behind %d: %v", n, stop+1, got)
			}
		}
		for range 2 {
			if got := slices.Collect(all); !slices.Equal(got, want) {
				t.Errorf("%d pushed: %v, not %v", n, got, want)
			}
		}
		if r.Len() != len(want) {
			t.Errorf("%d pushed: Len %d behind All", n, r.Len())
		}
	}
}

// Who pushes on the way comes by all that were there, whether the ring was full or not.
func TestPushWhileAllGoesOn(t *testing.T) {
	for n := 1; n < 9; n++ {
		r, want := pushed(4, n), last(4, n)
		var got []int
		for x := range r.All() {
			got = append(got, x)
			r.Push(100)
			r.Push(200)
		}
		if !slices.Equal(got, want) {
			t.Errorf("%d pushed: %v, not %v", n, got, want)
		}
	}
}

func TestRingsStandAlone(t *testing.T) {
	a, b := pushed(3, 5), pushed(3, 5)
	a.Push(6)
	if got := slices.Collect(b.All()); !slices.Equal(got, []int{3, 4, 5}) {
		t.Errorf("%v", got)
	}
}
