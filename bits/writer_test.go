package bits_test

import (
	"bytes"
	"math"
	"strings"
	"testing"

	"embrasure/bits"
)

// digits is the lowest bits of n as a text of 0 and 1, the highest first: what must be put, told in another way.
func digits(n uint64, count int) string {
	var s string
	for range count {
		s, n = string(rune('0'+n%2))+s, n/2
	}
	return s
}

// packed is the bytes of a text of 0 and 1, filled up with 0.
func packed(text string) []byte {
	text += strings.Repeat("0", (8-len(text)%8)%8)
	var b []byte
	for ; text != ""; text = text[8:] {
		n := 0
		for _, c := range text[:8] {
			n = 2*n + int(c-'0')
		}
		b = append(b, byte(n))
	}
	return b
}

// numbers are some whose bits are not the same from either side, and the ends.
func numbers() []uint64 {
	return []uint64{0, 1, 2, 5, 0x80, 0x1234, 0xDEADBEEF, 0x0123456789ABCDEF, 0xFEDCBA9876543210, 1 << 63, 1<<63 - 1, math.MaxUint64 - 1, math.MaxUint64}
}

// holds holds a writer against a text of 0 and 1.
func holds(t *testing.T, w *bits.Writer, text string) {
	t.Helper()
	if got, want := w.Bytes(), packed(text); !bytes.Equal(got, want) {
		t.Errorf("%x, not %x (%s)", got, want, text)
	}
}

func TestZeroWriterHasNothing(t *testing.T) {
	var w bits.Writer
	if b := w.Bytes(); len(b) != 0 {
		t.Errorf("%x", b)
	}
}

func TestPut(t *testing.T) {
	for _, x := range []struct {
		n    uint64
		bits int
		want string
	}{
		{5, 3, "\xA0"}, {5, 8, "\x05"}, {5, 2, "\x40"}, {5, 1, "\x80"}, {4, 1, "\x00"}, {0, 1, "\x00"}, {0, 9, "\x00\x00"},
		{0x1FF, 9, "\xFF\x80"}, {0x1234, 16, "\x12\x34"}, {0x1234, 12, "\x23\x40"}, {0xFF, 0, ""}, {0xFF, -1, ""},
		{1 << 63, 64, "\x80\x00\x00\x00\x00\x00\x00\x00"}, {1 << 63, 63, "\x00\x00\x00\x00\x00\x00\x00\x00"},
		{0x0123456789ABCDEF, 64, "\x01\x23\x45\x67\x89\xAB\xCD\xEF"}, {0x0123456789ABCDEF, 65, "\x01\x23\x45\x67\x89\xAB\xCD\xEF"},
	} {
		w := &bits.Writer{}
		w.Put(x.n, x.bits)
		if got := w.Bytes(); string(got) != x.want {
			t.Errorf("%d bits of %x: %x, not %x", x.bits, x.n, got, x.want)
		}
	}
}

// Each width, behind each count of bits that leaves the last byte another room.
func TestPutBehindOthers(t *testing.T) {
	for ahead := range 17 {
		for width := range 65 {
			for _, n := range numbers() {
				w := &bits.Writer{}
				w.Put(0x15A5A, ahead)
				w.Put(n, width)
				w.Put(5, 3)
				holds(t, w, digits(0x15A5A, ahead)+digits(n, width)+"101")
			}
		}
	}
}

func TestPutOfWidthsBeyondTheEnds(t *testing.T) {
	n := uint64(0x8123456789ABCDEF)
	for _, width := range []int{math.MinInt, math.MinInt32, -65, -64, -8, -1, 0} {
		w := &bits.Writer{}
		w.Put(n, width)
		w.Sign(-1, width)
		holds(t, w, "")
		w.Put(2, 3)
		w.Put(n, width)
		w.Sign(-1, width)
		w.Put(3, 2)
		holds(t, w, "01011")
	}
	for _, width := range []int{64, 65, 66, 72, 127, 128, math.MaxInt32, math.MaxInt} {
		w := &bits.Writer{}
		w.Put(2, 3)
		w.Put(n, width)
		w.Sign(-2, width)
		w.Put(3, 2)
		holds(t, w, "010"+digits(n, 64)+digits(math.MaxUint64-1, 64)+"11")
	}
}

func TestWriterSign(t *testing.T) {
	for _, x := range []struct {
		n    int64
		bits int
		want string
	}{
		{-1, 1, "\x80"}, {0, 1, "\x00"}, {-1, 3, "\xE0"}, {-2, 3, "\xC0"}, {-4, 3, "\x80"}, {3, 3, "\x60"}, {-5, 3, "\x60"}, {4, 3, "\x80"}, {-1, 0, ""}, {-1, -3, ""},
		{-2, 8, "\xFE"}, {-256, 9, "\x80\x00"}, {-65536, 18, "\xC0\x00\x00"}, {65536, 18, "\x40\x00\x00"}, {math.MinInt32, 32, "\x80\x00\x00\x00"},
		{math.MinInt64, 64, "\x80\x00\x00\x00\x00\x00\x00\x00"}, {math.MaxInt64, 64, "\x7F\xFF\xFF\xFF\xFF\xFF\xFF\xFF"}, {math.MinInt64, 63, "\x00\x00\x00\x00\x00\x00\x00\x00"}, {-2, 99, "\xFF\xFF\xFF\xFF\xFF\xFF\xFF\xFE"},
	} {
		w := &bits.Writer{}
		w.Sign(x.n, x.bits)
		if got := w.Bytes(); string(got) != x.want {
			t.Errorf("%d bits of %d: %x, not %x", x.bits, x.n, got, x.want)
		}
	}
}

// Bytes is asked at each bit, so that one that puts its filling in, or hands out what is written on, is found out.
func TestBytesLeaveTheWriterAsItIs(t *testing.T) {
	w, text := &bits.Writer{}, ""
	var early [][]byte
	var want []string
	for i := range 100 {
		bit := uint64(i * i / 3 % 2)
		w.Put(bit, 1)
		text += digits(bit, 1)
		holds(t, w, text)
		early, want = append(early, w.Bytes()), append(want, string(packed(text)))
		for spoilt, j := w.Bytes(), 0; j < len(spoilt); j++ {
			spoilt[j] = ^spoilt[j]
		}
		holds(t, w, text)
	}
	for i, b := range early {
		if string(b) != want[i] {
			t.Errorf("told behind %d bits, and then changed: %x, not %x", i+1, b, want[i])
		}
	}
}

func TestWritersStandAlone(t *testing.T) {
	a, b := &bits.Writer{}, &bits.Writer{}
	a.Put(5, 3)
	holds(t, b, "")
	b.Put(1, 2)
	a.Put(1, 1)
	holds(t, a, "1011")
	holds(t, b, "01")
}
