package crc_test

import (
	"bytes"
	"testing"

	"embrasure/crc"
)

// slow is More as the document tells it, bit by bit.
func slow(sum uint16, b []byte) uint16 {
	for _, x := range b {
		sum ^= 256 * uint16(x)
		for range 8 {
			high := sum&0x8000 != 0
			sum *= 2
			if high {
				sum ^= 0x1021
			}
		}
	}
	return sum
}

// mixed is so many bytes of all sorts, another row for each seed.
func mixed(size, seed int) []byte {
	b := make([]byte, size)
	n := uint32(seed)*2654435761 + 1
	for i := range b {
		n = n*1664525 + 1013904223
		b[i] = byte(n >> 24)
	}
	return b
}

// signed is bytes with their sum behind, the higher byte first.
func signed(b []byte) []byte {
	sum := crc.Sum(b)
	return append(bytes.Clone(b), byte(sum>>8), byte(sum))
}

func TestSum(t *testing.T) {
	for _, x := range []struct {
		b    string
		want uint16
	}{
		{"123456789", 0x29B1}, {"", 0xFFFF}, {"A", 0xB915}, {"\x00", 0xE1F0}, {"\xFF", 0xFF00}, {"\x00\x00", 0x1D0F}, {"\xFF\xFF", 0x0000},
	} {
		if got := crc.Sum([]byte(x.b)); got != x.want {
			t.Errorf("%q: %04X, not %04X", x.b, got, x.want)
		}
	}
}

func TestOfNoBytes(t *testing.T) {
	for _, b := range [][]byte{nil, {}, make([]byte, 0, 8)} {
		if got := crc.Sum(b); got != 0xFFFF {
			t.Errorf("Sum of nothing: %04X", got)
		}
		for sum := range 1 << 16 {
			if got := crc.More(uint16(sum), b); got != uint16(sum) {
				t.Fatalf("More of %04X and nothing: %04X", sum, got)
			}
		}
	}
}

// Each byte behind each sum there is: since pieces do not matter, all other answers are made of these.
func TestMoreOfEachByte(t *testing.T) {
	for sum := range 1 << 16 {
		for x := range 256 {
			b := []byte{byte(x)}
			if got, want := crc.More(uint16(sum), b), slow(uint16(sum), b); got != want {
				t.Fatalf("%02X behind %04X: %04X, not %04X", x, sum, got, want)
			}
		}
	}
}

func TestMoreOfManyBytes(t *testing.T) {
	for size := range 1100 {
		b := mixed(size, size)
		if got, want := crc.Sum(b), slow(0xFFFF, b); got != want {
			t.Errorf("Sum of %d bytes: %04X, not %04X", size, got, want)
		}
		for _, sum := range []uint16{0, 1, 0x1021, 0x7FFF, 0x8000, 0xFFFF} {
			if got, want := crc.More(sum, b), slow(sum, b); got != want {
				t.Errorf("More of %04X and %d bytes: %04X, not %04X", sum, size, got, want)
			}
		}
	}
}

// Cut in three wherever it may be, ends and empty pieces too.
func TestPiecesDoNotMatter(t *testing.T) {
	for _, size := range []int{0, 1, 2, 9, 40} {
		b := mixed(size, 3)
		want := crc.Sum(b)
		for i := range size + 1 {
			for j := i; j <= size; j++ {
				if got := crc.More(crc.More(crc.Sum(b[:i]), b[i:j]), b[j:]); got != want {
					t.Errorf("%d bytes cut at %d and %d: %04X, not %04X", size, i, j, got, want)
				}
			}
		}
	}
}

func TestByteByByte(t *testing.T) {
	b := mixed(1024, 5)
	sum := crc.Sum(nil)
	for i := range b {
		sum = crc.More(sum, b[i:i+1])
		if want := crc.Sum(b[:i+1]); sum != want {
			t.Fatalf("behind %d bytes: %04X, not %04X", i+1, sum, want)
		}
	}
}

func TestSumBehindIsNought(t *testing.T) {
	for size := range 300 {
		if got := crc.Sum(signed(mixed(size, 7))); got != 0 {
			t.Errorf("%d bytes with their sum behind: %04X", size, got)
		}
	}
	for sum := range 1 << 16 {
		if got := crc.More(uint16(sum), []byte{byte(sum >> 8), byte(sum)}); got != 0 {
			t.Fatalf("%04X behind itself: %04X", sum, got)
		}
	}
}

// The lower byte first is another thing, but where both are the same.
func TestSumBehindTheOtherWayRound(t *testing.T) {
	for size := range 300 {
		b := signed(mixed(size, 9))
		high, low := b[size], b[size+1]
		b[size], b[size+1] = low, high
		if got := crc.Sum(b); (got == 0) != (high == low) {
			t.Errorf("%d bytes with %02X and then %02X behind: %04X", size, low, high, got)
		}
	}
}

// Bytes of which up to sixteen bits in a row are turned are not what they were, and it is seen.
func TestTurnedBitsAreSeen(t *testing.T) {
	whole := signed(mixed(30, 11))
	for at := range 8 * len(whole) {
		for width := 1; width <= 16 && at+width <= 8*len(whole); width++ {
			b := bytes.Clone(whole)
			for i := at; i < at+width; i++ {
				b[i/8] ^= 0x80 >> (i % 8)
			}
			if crc.Sum(b) == 0 {
				t.Errorf("%d bits turned at %d: not seen", width, at)
			}
		}
	}
}

func TestWhatIsHandedInStays(t *testing.T) {
	whole := mixed(64, 13)
	b := bytes.Clone(whole)
	part := b[8:24]
	first := crc.Sum(part)
	crc.More(0x1234, part)
	if !bytes.Equal(b, whole) {
		t.Error("what was handed in, or what is beside it, is changed")
	}
	clear(b)
	crc.Sum(part)
	copy(b, whole)
	// What came between leaves nothing behind.
	if got := crc.Sum(part); got != first {
		t.Errorf("the same bytes again: %04X, not %04X", got, first)
	}
}
