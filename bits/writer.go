package bits

import (
	"iter"
	"slices"
)

// Writer has bits, in order; a zero one has nothing (C1).
type Writer struct {
	bytes []byte
	// How many of the last byte's bits are not put yet: counted so, a zero writer is right as it is.
	free int
}

// Put puts the lowest bits of n behind all others, the highest of them first (C1).
func (w *Writer) Put(n uint64, bits int) {
	for bit := range lowest(n, counted(bits)) {
		if w.free == 0 {
			w.bytes, w.free = append(w.bytes, 0), 8
		}
		w.free--
		w.bytes[len(w.bytes)-1] |= bit << w.free
	}
}

// Sign is Put of n as two's complement (C1).
func (w *Writer) Sign(n int64, bits int) { w.Put(uint64(n), bits) }

// Bytes is all the bits, filled up with 0 to whole bytes; the writer stays what it is (C1).
func (w *Writer) Bytes() []byte { return slices.Clone(w.bytes) }

// lowest goes through the lowest bits of n, count of them, the highest first.
func lowest(n uint64, count int) iter.Seq[byte] {
	return func(yield func(byte) bool) {
		for i := count - 1; i >= 0; i-- {
			if !yield(byte(n >> i & 1)) {
				return
			}
		}
	}
}
