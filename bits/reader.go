package bits

import (
	"iter"
	"slices"
)

// Reader has the bits of bytes (C2).
type Reader struct {
	bytes []byte
	// How many bits are taken.
	taken int
}

// NewReader is one of bytes (C2).
func NewReader(b []byte) *Reader {
	// A copy, since who owns b may write over it.
	return &Reader{bytes: slices.Clone(b)}
}

// Get takes so many bits, as a number; or all that are left, if there are not so many, as none (C2).
func (r *Reader) Get(bits int) (uint64, bool) {
	count := counted(bits)
	if count > r.left() {
		r.taken += r.left()
		return 0, false
	}
	var n uint64
	for bit := range r.next(count) {
		n = n<<1 | uint64(bit)
	}
	r.taken += count
	return n, true
}

// Sign is Get, as two's complement of so many bits (C2).
func (r *Reader) Sign(bits int) (int64, bool) {
	n, is := r.Get(bits)
	above := most - counted(bits)
	// Raised to the top and lowered again, as a signed number, so that the first bit fills all above it.
	return int64(n<<above) >> above, is
}

// Rest tells whether what is left is no more than what fills up a byte (C2).
func (r *Reader) Rest() bool {
	if r.left() >= 8 {
		return false
	}
	for bit := range r.next(r.left()) {
		if bit != 0 {
			return false
		}
	}
	return true
}

func (r *Reader) left() int { return 8*len(r.bytes) - r.taken }

// next goes through the first count bits of those that are left, and takes none; count must not be more than these.
func (r *Reader) next(count int) iter.Seq[byte] {
	return func(yield func(byte) bool) {
		for i := r.taken; i < r.taken+count; i++ {
			if !yield(r.bytes[i/8] >> (7 - i%8) & 1) {
				return
			}
		}
	}
}
