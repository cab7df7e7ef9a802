package bits_test

import (
	"bytes"
	"math"
	"strings"
	"testing"

	"embrasure/bits"
)

// behind is a reader of b, of which taken bits are taken.
func behind(t *testing.T, b []byte, taken int) *bits.Reader {
	t.Helper()
	r := bits.NewReader(b)
	for range taken {
		if _, is := r.Get(1); !is {
			t.Fatalf("%x has not %d bits", b, taken)
		}
	}
	return r
}

func get(t *testing.T, r *bits.Reader, width int, want uint64, is bool) {
	t.Helper()
	if n, got := r.Get(width); n != want || got != is {
		t.Errorf("Get %d: %x %v, not %x %v", width, n, got, want, is)
	}
}

func sign(t *testing.T, r *bits.Reader, width int, want int64, is bool) {
	t.Helper()
	if n, got := r.Sign(width); n != want || got != is {
		t.Errorf("Sign %d: %d %v, not %d %v", width, n, got, want, is)
	}
}

// ended asks a reader of which all is taken for all that it has.
func ended(t *testing.T, r *bits.Reader) {
	t.Helper()
	if !r.Rest() {
		t.Error("nothing is left, and it is no rest")
	}
	for _, width := range []int{1, 8, 64, 65, math.MaxInt} {
		get(t, r, width, 0, false)
		sign(t, r, width, 0, false)
	}
	for _, width := range []int{0, -1, math.MinInt} {
		get(t, r, width, 0, true)
		sign(t, r, width, 0, true)
	}
}

func TestReaderOfNothing(t *testing.T) {
	ended(t, bits.NewReader(nil))
	ended(t, bits.NewReader([]byte{}))
}

func TestGet(t *testing.T) {
	r := bits.NewReader([]byte("\xA0\x12\x34\xFF\x80"))
	get(t, r, 3, 5, true)
	get(t, r, 0, 0, true)
	get(t, r, -7, 0, true)
	get(t, r, 9, 1, true)
	get(t, r, 12, 0x234, true)
	get(t, r, 9, 0x1FF, true)
	get(t, r, 7, 0, true)
	ended(t, r)
}

// Each width at each place: the first bit is the highest, and just so many are taken.
func TestGetAtEachPlace(t *testing.T) {
	b := []byte("\x9B\x3C\x01\xF7\x80\x5A\xE2\x11\xC3\x6D")
	var text string
	for _, x := range b {
		text += digits(uint64(x), 8)
	}
	for at := range len(text) + 1 {
		for width := range 65 {
			r := behind(t, b, at)
			if at+width > len(text) {
				get(t, r, width, 0, false)
				ended(t, r)
				continue
			}
			n, is := r.Get(width)
			if got := digits(n, 64); !is || got != strings.Repeat("0", 64-width)+text[at:at+width] {
				t.Fatalf("%d bits at %d: %s %v", width, at, got, is)
			}
			if next, is := r.Get(1); is && digits(next, 1) != text[at+width:at+width+1] || is != (at+width < len(text)) {
				t.Fatalf("%d bits at %d: behind them %d %v", width, at, next, is)
			}
		}
	}
}

func TestGetOfWidthsBeyondTheEnds(t *testing.T) {
	b := []byte("\x7F\xFF\xFF\xFF\xFF\xFF\xFF\xFE\x80\x00")
	for _, width := range []int{math.MinInt, math.MinInt32, -64, -1, 0} {
		r := bits.NewReader(b)
		get(t, r, width, 0, true)
		sign(t, r, width, 0, true)
		get(t, r, 3, 3, true)
	}
	for _, width := range []int{64, 65, 66, 128, math.MaxInt32, math.MaxInt} {
		r := bits.NewReader(b)
		get(t, r, width, 0x7FFFFFFFFFFFFFFE, true)
		get(t, r, 2, 2, true)
		r = behind(t, b, 1)
		sign(t, r, width, -3, true)
		get(t, r, 2, 0, true)
		// 15 are left of 80, fewer than the 64 that are meant.
		get(t, r, width, 0, false)
		ended(t, r)
	}
}

// Bytes that end within a number: whatever is left goes, and is not told.
func TestGetBeyondTheEnd(t *testing.T) {
	for size := range 8 {
		b := bytes.Repeat([]byte{0xFF}, size)
		for taken := range 8*size + 1 {
			left := 8*size - taken
			for _, width := range []int{left + 1, left + 2, 64, math.MaxInt} {
				r := behind(t, b, taken)
				get(t, r, width, 0, false)
				ended(t, r)
				r = behind(t, b, taken)
				sign(t, r, width, 0, false)
				ended(t, r)
			}
		}
	}
}

func TestReaderSign(t *testing.T) {
	for _, x := range []struct {
		b    string
		bits int
		want int64
	}{
		{"\x80", 1, -1}, {"\x7F", 1, 0}, {"\xFF", 0, 0}, {"\xFF", -1, 0}, {"\xE0", 3, -1}, {"\x80", 3, -4}, {"\x60", 3, 3}, {"\x9F", 3, -4}, {"\x1F", 3, 0},
		{"\x80", 8, -128}, {"\x7F", 8, 127}, {"\xFF", 8, -1}, {"\xC0\x00\x00", 18, -65536}, {"\x40\x00\x00", 18, 65536}, {"\x80\x00\x00\x00", 32, math.MinInt32},
		{"\x80\x00\x00\x00\x00\x00\x00\x00", 64, math.MinInt64}, {"\x7F\xFF\xFF\xFF\xFF\xFF\xFF\xFF", 64, math.MaxInt64}, {"\xFF\xFF\xFF\xFF\xFF\xFF\xFF\xFF", 64, -1}, {"\x80\x00\x00\x00\x00\x00\x00\x00", 63, -1 << 62}, {"\xFF\xFF\xFF\xFF\xFF\xFF\xFF\xFE", 70, -2},
	} {
		sign(t, bits.NewReader([]byte(x.b)), x.bits, x.want, true)
	}
}

// Of each width both ends, and what lies beside them and beside 0, come back; one beyond an end comes back from the other side.
func TestSignComesBack(t *testing.T) {
	for width := 1; width <= 64; width++ {
		least := int64(-1) << (width - 1)
		most := -(least + 1)
		l := []int64{least, least + 1, -1, 0, most - 1, most}
		w := &bits.Writer{}
		for _, n := range append(l, most+1, least-1) {
			w.Sign(n, width)
		}
		r := bits.NewReader(w.Bytes())
		for _, n := range append(l, least, most) {
			sign(t, r, width, n, true)
		}
		if !r.Rest() {
			t.Errorf("of %d bits: no rest", width)
		}
	}
}

func TestRest(t *testing.T) {
	for _, b := range []string{"", "\x00", "\x01", "\x80", "\xA0", "\xFE", "\xFF", "\x00\x00", "\x00\x01", "\x01\x00", "\xFF\x80", "\x00\x00\x00"} {
		var text string
		for i := range len(b) {
			text += digits(uint64(b[i]), 8)
		}
		for taken := range len(text) + 1 {
			r := behind(t, []byte(b), taken)
			left := text[taken:]
			want := len(left) < 8 && !strings.Contains(left, "1")
			// Asked twice, and all is still there to be taken.
			for range 2 {
				if got := r.Rest(); got != want {
					t.Errorf("%x, %d taken: %v", b, taken, got)
				}
			}
			for _, c := range left {
				get(t, r, 1, uint64(c-'0'), true)
			}
			ended(t, r)
		}
	}
}

func TestReaderKeepsNothingOfItsBytes(t *testing.T) {
	b := []byte("\xA5\x5A")
	r := bits.NewReader(b)
	get(t, r, 4, 0xA, true)
	copy(b, "\x00\xFF")
	get(t, r, 8, 0x55, true)
	get(t, r, 4, 0xA, true)
	get(t, r, 1, 0, false)
	if string(b) != "\x00\xFF" {
		t.Errorf("what was handed in is changed: %x", b)
	}
}

func TestReadersStandAlone(t *testing.T) {
	b := []byte("\xA5")
	x, y := bits.NewReader(b), bits.NewReader(b)
	get(t, x, 4, 0xA, true)
	get(t, y, 8, 0xA5, true)
	get(t, x, 4, 5, true)
}

// What was put is got, in order, over a long run of widths and numbers of either sort; behind it there is but the filling.
func TestWhatWasPutIsGot(t *testing.T) {
	for count := range 200 {
		w, width, n := &bits.Writer{}, 0, uint64(0)
		step := func(i int) {
			width = (i*i*7+count*11)%71 - 3
			n = uint64(i+1) * 0x9E3779B97F4A7C15
		}
		for i := range count {
			step(i)
			if i%3 == 0 {
				w.Sign(int64(n), width)
			} else {
				w.Put(n, width)
			}
		}
		r := bits.NewReader(w.Bytes())
		for i := range count {
			step(i)
			above := 64 - max(0, min(width, 64))
			if i%3 == 0 {
				sign(t, r, width, int64(n<<above)>>above, true)
			} else {
				get(t, r, width, n<<above>>above, true)
			}
		}
		if !r.Rest() {
			t.Errorf("behind %d: no rest", count)
		}
	}
}
