package sequence_test

import (
	"testing"

	"embrasure/sequence"
)

const round = 1 << 16

// edges are numbers at which something could go wrong: where they go round, half round, and a window's reach from there.
var edges = []uint16{0, 1, 2, 31, 32, 33, 34, 255, 256, 32734, 32735, 32736, 32766, 32767, 32768, 32769, 32800, 32801, 65279, 65502, 65503, 65504, 65505, 65534, 65535}

// far is Dist by whole numbers alone: a less b, brought back by one round if that is too far.
func far(a, b uint16) int {
	d := int(a) - int(b)
	if d > 32767 {
		return d - round
	}
	if d < -32768 {
		return d + round
	}
	return d
}

func TestDist(t *testing.T) {
	for _, x := range []struct {
		a, b uint16
		want int
	}{
		{0, 0, 0}, {7, 7, 0}, {65535, 65535, 0}, {1, 0, 1}, {0, 1, -1}, {100, 40, 60}, {40, 100, -60},
		{0, 65535, 1}, {65535, 0, -1}, {5, 65530, 11}, {65530, 5, -11},
		{32767, 0, 32767}, {0, 32767, -32767}, {32768, 0, -32768}, {0, 32768, -32768}, {32769, 0, -32767}, {0, 32769, 32767},
		{65535, 32768, 32767}, {65535, 32767, -32768}, {32767, 65535, -32768}, {32768, 65535, -32767}, {40000, 7232, -32768}, {40000, 7233, 32767},
	} {
		if got := sequence.Dist(x.a, x.b); got != x.want {
			t.Errorf("%d from %d: %d, not %d", x.a, x.b, got, x.want)
		}
		if got := sequence.Newer(x.a, x.b); got != (x.want > 0) {
			t.Errorf("%d newer than %d: %v", x.a, x.b, got)
		}
	}
}

// Each number from each edge, either way.
func TestDistOfAllNumbers(t *testing.T) {
	for _, b := range edges {
		for i := range round {
			a := uint16(i)
			if got := sequence.Dist(a, b); got != far(a, b) {
				t.Fatalf("%d from %d: %d, not %d", a, b, got, far(a, b))
			}
			if got := sequence.Dist(b, a); got != far(b, a) {
				t.Fatalf("%d from %d: %d, not %d", b, a, got, far(b, a))
			}
			if got := sequence.Newer(a, b); got != (far(a, b) > 0) {
				t.Fatalf("%d newer than %d: %v", a, b, got)
			}
			if got := sequence.Newer(b, a); got != (far(b, a) > 0) {
				t.Fatalf("%d newer than %d: %v", b, a, got)
			}
		}
	}
}

// Of two numbers one is newer, unless they are the same, or just half round apart: then neither is.
func TestNewerIsOneOfTwo(t *testing.T) {
	for _, b := range edges {
		for d := range round {
			a := b + uint16(d)
			either := sequence.Newer(a, b) != sequence.Newer(b, a)
			if either != (d != 0 && d != 32768) {
				t.Fatalf("%d and %d: %v %v", a, b, sequence.Newer(a, b), sequence.Newer(b, a))
			}
		}
	}
}

func TestAcked(t *testing.T) {
	for _, x := range []struct {
		last uint16
		bits uint32
		n    uint16
		want bool
	}{
		{5, 0, 5, true}, {5, 0, 4, false}, {5, 0, 6, false}, {5, 1, 4, true}, {5, 1, 3, false}, {5, 2, 3, true}, {5, 2, 4, false}, {5, 1 << 4, 0, true}, {5, 1 << 5, 65535, true},
		{100, 1 << 31, 68, true}, {100, 1 << 31, 69, false}, {100, 1 << 31, 67, false}, {100, 1 << 30, 69, true}, {100, 1<<32 - 1, 67, false}, {100, 1<<32 - 1, 101, false}, {100, 1<<32 - 1, 132, false}, {100, 1<<32 - 1, 133, false},
		{0, 0, 0, true}, {0, 1, 65535, true}, {0, 1 << 31, 65504, true}, {0, 1<<32 - 1, 65503, false}, {0, 1<<32 - 1, 1, false},
		{31, 1 << 31, 65535, true}, {32, 1 << 31, 0, true}, {65535, 1 << 31, 65503, true}, {65535, 1<<32 - 1, 0, false},
		{0, 1<<32 - 1, 32767, false}, {0, 1<<32 - 1, 32768, false}, {0, 1<<32 - 1, 32769, false}, {32768, 1<<32 - 1, 0, false}, {32767, 1<<32 - 1, 65535, false},
	} {
		if got := sequence.Acked(x.last, x.bits, x.n); got != x.want {
			t.Errorf("%d, %08X of %d: %v", x.last, x.bits, x.n, got)
		}
	}
}

// Each bit alone, and all but it: they tell of one number, and of all others there are bits for.
func TestAckedOfEachBit(t *testing.T) {
	for _, last := range edges {
		for bit := range 32 {
			for behind := -70; behind <= 70; behind++ {
				n := last - uint16(behind)
				alone := behind == 0 || behind == bit+1
				if got := sequence.Acked(last, 1<<bit, n); got != alone {
					t.Fatalf("%d, bit %d alone, of %d: %v", last, bit, n, got)
				}
				others := behind >= 0 && behind <= 32 && behind != bit+1
				if got := sequence.Acked(last, ^uint32(1<<bit), n); got != others {
					t.Fatalf("%d, all but bit %d, of %d: %v", last, bit, n, got)
				}
			}
		}
	}
}

// Each number there is: none but the last one and the 32 behind it is ever told of.
func TestAckedOfAllNumbers(t *testing.T) {
	for _, last := range edges {
		for i := range round {
			n := uint16(i)
			behind := far(last, n)
			if got := sequence.Acked(last, 0, n); got != (behind == 0) {
				t.Fatalf("%d, no bits, of %d: %v", last, n, got)
			}
			if got := sequence.Acked(last, 1<<32-1, n); got != (behind >= 0 && behind <= 32) {
				t.Fatalf("%d, all bits, of %d: %v", last, n, got)
			}
		}
	}
}
