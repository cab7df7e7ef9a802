package mail_test

import (
	"math"
	"slices"
	"testing"

	"embrasure/mail"
)

// room is how many things a box of that size must hold.
func room(size int) int {
	if size < 1 {
		return 1
	}
	if size > 4096 {
		return 4096
	}
	return size
}

// sizes are those at which something could go wrong: both ends of what a box may hold, and beyond them.
var sizes = []int{math.MinInt, math.MinInt32, -4096, -1, 0, 1, 2, 3, 31, 32, 33, 4095, 4096, 4097, 1 << 20, math.MaxInt}

// counts holds Len and Lost against what they must tell; twice, since asking must change nothing.
func counts[T any](t *testing.T, b *mail.Box[T], length, lost int) {
	t.Helper()
	for range 2 {
		if b.Len() != length || b.Lost() != lost {
			t.Fatalf("Len %d, Lost %d, not %d, %d", b.Len(), b.Lost(), length, lost)
		}
	}
}

// put puts all of them in, each of which must find room, or not.
func put[T any](t *testing.T, b *mail.Box[T], want bool, things ...T) {
	t.Helper()
	for i, x := range things {
		if b.Put(x) != want {
			t.Fatalf("Put of thing %d: not %v", i, want)
		}
	}
}

// takes takes all of them, in order.
func takes[T comparable](t *testing.T, b *mail.Box[T], want ...T) {
	t.Helper()
	for i, w := range want {
		if x, ok := b.Take(); x != w || !ok {
			t.Fatalf("Take of thing %d: %v %v, not %v", i, x, ok, w)
		}
	}
}

// drains takes all of them at once, and finds none left.
func drains[T comparable](t *testing.T, b *mail.Box[T], want ...T) {
	t.Helper()
	if got := b.Drain(); !slices.Equal(got, want) {
		t.Fatalf("Drain: %v, not %v", got, want)
	}
	empty(t, b)
}

// empty asks in all ways, more than once, whether nothing is there; none of them may change that, or count as lost.
func empty[T comparable](t *testing.T, b *mail.Box[T]) {
	t.Helper()
	var zero T
	lost := b.Lost()
	for range 3 {
		counts(t, b, 0, lost)
		if x, ok := b.Take(); x != zero || ok {
			t.Fatalf("Take of none: %v %v", x, ok)
		}
		if got := b.Drain(); len(got) != 0 {
			t.Fatalf("Drain of none: %v", got)
		}
	}
}

// upTo are the numbers of first to last.
func upTo(first, last int) []int {
	var l []int
	for i := first; i <= last; i++ {
		l = append(l, i)
	}
	return l
}

func TestExample(t *testing.T) {
	b := mail.New[string](1)
	put(t, b, true, "a")
	put(t, b, false, "b")
	counts(t, b, 1, 1)
	takes(t, b, "a")
	empty(t, b)
	counts(t, b, 0, 1)
}

func TestNewIsEmpty(t *testing.T) {
	for _, size := range sizes {
		b := mail.New[int](size)
		counts(t, b, 0, 0)
		empty(t, b)
		put(t, b, true, 7)
		counts(t, b, 1, 0)
		drains(t, b, 7)
	}
}

func TestPutUntilFull(t *testing.T) {
	for _, size := range sizes {
		b, n := mail.New[int](size), room(size)
		for i := 1; i <= n; i++ {
			put(t, b, true, i)
			counts(t, b, i, 0)
		}
		for lost := 1; lost <= 5; lost++ {
			put(t, b, false, -lost)
			counts(t, b, n, lost)
		}
		takes(t, b, upTo(1, n)...)
		empty(t, b)
		counts(t, b, 0, 5)
	}
}

// There is room again for just as many as were taken, and what was lost does not come back.
func TestRoomBehindTake(t *testing.T) {
	for _, size := range []int{-1, 1, 2, 5, 4096, 5000} {
		n := room(size)
		for _, taken := range []int{1, n / 2, n - 1, n} {
			if taken < 1 {
				continue
			}
			b := mail.New[int](size)
			put(t, b, true, upTo(1, n)...)
			put(t, b, false, -1)
			takes(t, b, upTo(1, taken)...)
			counts(t, b, n-taken, 1)
			put(t, b, true, upTo(n+1, n+taken)...)
			put(t, b, false, -2)
			counts(t, b, n, 2)
			drains(t, b, upTo(taken+1, n+taken)...)
			counts(t, b, 0, 2)
		}
	}
}

// One that is put and taken at once, far more often than the box has room.
func TestOneAtATime(t *testing.T) {
	for _, size := range []int{0, 1, 2, 3, 4096} {
		b := mail.New[int](size)
		for i := range 3*room(size) + 100 {
			put(t, b, true, i)
			counts(t, b, 1, 0)
			takes(t, b, i)
			counts(t, b, 0, 0)
		}
		empty(t, b)
	}
}

func TestDrainedAndFilledAgain(t *testing.T) {
	for _, size := range sizes {
		b, n := mail.New[int](size), room(size)
		for round := range 4 {
			first := round * 10000
			put(t, b, true, upTo(first+1, first+n)...)
			put(t, b, false, -1)
			counts(t, b, n, round+1)
			drains(t, b, upTo(first+1, first+n)...)
			counts(t, b, 0, round+1)
		}
	}
}

// Drain of each number of things, behind each number of those that were taken.
func TestDrainOfSome(t *testing.T) {
	for n := range 7 {
		for taken := range n + 1 {
			b := mail.New[int](6)
			put(t, b, true, upTo(1, n)...)
			takes(t, b, upTo(1, taken)...)
			counts(t, b, n-taken, 0)
			drains(t, b, upTo(taken+1, n)...)
			put(t, b, true, upTo(1, 6)...)
			put(t, b, false, 7)
			drains(t, b, upTo(1, 6)...)
		}
	}
}

// What Drain answered is the caller's, and what comes later does not stand in it.
func TestDrainIsTheCallers(t *testing.T) {
	b := mail.New[int](3)
	put(t, b, true, 1, 2, 3)
	first := b.Drain()
	put(t, b, true, 4, 5, 6)
	if !slices.Equal(first, []int{1, 2, 3}) {
		t.Errorf("the first Drain tells %v then", first)
	}
	for i := range first {
		first[i] = -1
	}
	_ = append(first, -2)
	drains(t, b, 4, 5, 6)
}

// Things that are the same are as many as were put, and a zero one that is there is told by the true alone.
func TestSameAndZeroThings(t *testing.T) {
	b := mail.New[int](4)
	put(t, b, true, 0, 5, 5, 0)
	put(t, b, false, 5, 0)
	counts(t, b, 4, 2)
	takes(t, b, 0, 5)
	drains(t, b, 5, 0)
}

func TestBoxesStandAlone(t *testing.T) {
	a, b := mail.New[int](2), mail.New[int](2)
	put(t, a, true, 1, 2)
	put(t, a, false, 3)
	counts(t, b, 0, 0)
	empty(t, b)
	put(t, b, true, 4)
	counts(t, a, 2, 1)
	drains(t, b, 4)
	drains(t, a, 1, 2)
	counts(t, b, 0, 0)
}

// Against a slice and a count, over a run in which calls of all kinds follow each other.
func TestLongRun(t *testing.T) {
	for _, size := range []int{-2, 0, 1, 2, 3, 4, 8, 32} {
		b, lost, step := mail.New[int](size), 0, uint32(size)
		var model []int
		for n := range 20000 {
			step = step*1664525 + 1013904223
			switch {
			case step>>24 < 150:
				fits := len(model) < room(size)
				put(t, b, fits, n)
				if fits {
					model = append(model, n)
				} else {
					lost++
				}
			case step>>24 < 250 && len(model) > 0:
				takes(t, b, model[0])
				model = model[1:]
			case step>>24 >= 250:
				drains(t, b, model...)
				model = nil
			default:
				empty(t, b)
			}
			counts(t, b, len(model), lost)
		}
		if lost == 0 {
			t.Errorf("of %d: the run lost none", size)
		}
	}
}
