package netchan_test

import (
	"bytes"
	"testing"

	"embrasure/api"
	"embrasure/netchan"
)

func TestExample(t *testing.T) {
	p := newPair(t)
	p.push(some(4))
	for range 2 {
		if l := list(t, p.must(1)); !same(l, []api.Message{some(4)}) {
			t.Errorf("%+v", l)
		}
	}
}

func TestNewChannel(t *testing.T) {
	c := netchan.New()
	if at, is := c.Heard(); at != 0 || is || c.Waits() != 0 || c.RTT() != 0 {
		t.Errorf("%d %v, %d wait, RTT %d", at, is, c.Waits(), c.RTT())
	}
	b, err := c.Pack(nil, 77)
	if err != api.OK || !bytes.Equal(b, laid(0, 0, 0, 0, []byte{0})) {
		t.Errorf("%x %v", b, err)
	}
}

func TestPushOfWhatIsNotRight(t *testing.T) {
	p := newPair(t)
	wrong := []api.Message{{}, {Kind: 10}, {Kind: api.Welcome}, {Kind: api.Hello, ID: 1}, {Kind: api.Move}, snap(1024)}
	for _, m := range wrong {
		if err := p.push(m); err != api.ErrArg {
			t.Errorf("%+v: %v", m, err)
		}
	}
	if l := list(t, p.must(0)); len(l) != 0 {
		t.Errorf("%+v", l)
	}
	for i := range 64 {
		p.push(bound(i))
	}
	// What is not right is so, whether or not there is room.
	for _, m := range wrong {
		if err := p.push(m); err != api.ErrArg {
			t.Errorf("%+v, while 64 wait: %v", m, err)
		}
	}
}

func TestPushOfTooMany(t *testing.T) {
	p := newPair(t)
	for i := range 64 {
		if err := p.push(bound(i)); err != api.OK {
			t.Fatalf("%d wait: %v", i, err)
		}
	}
	for range 3 {
		if err := p.push(bound(64)); err != api.ErrFull || p.c.Waits() != 64 {
			t.Errorf("%d wait: %v", p.c.Waits(), err)
		}
	}
	// As many as were acknowledged have room again, and come last.
	p.must(0)
	p.acked(0, 0, 0, 0)
	for i := range 16 {
		if err := p.push(bound(100 + i)); err != api.OK {
			t.Errorf("%d wait: %v", p.c.Waits(), err)
		}
	}
	if err := p.push(bound(200)); err != api.ErrFull {
		t.Errorf("%d wait: %v", p.c.Waits(), err)
	}
	var came []api.Message
	for i := 1; p.c.Waits() > 0; i++ {
		came = append(came, list(t, p.must(0))...)
		p.acked(uint16(i), uint16(i), 0, 0)
	}
	var want []api.Message
	for i := 16; i < 64; i++ {
		want = append(want, bound(i))
	}
	for i := range 16 {
		want = append(want, bound(100+i))
	}
	if !same(came, want) {
		t.Errorf("%+v", came)
	}
}

// Messages stand ahead of those that wait, up to 16 in all.
func TestPackOfWhatWaits(t *testing.T) {
	for count := range 17 {
		for waits := range 20 {
			p := newPair(t)
			var want []api.Message
			l := row(count, 300)
			want = append(want, l...)
			for i := range waits {
				p.push(bound(i))
				if len(want) < 16 {
					want = append(want, bound(i))
				}
			}
			if got := list(t, p.must(5, l...)); !same(got, want) {
				t.Errorf("%d, and %d that wait: %+v", count, waits, got)
			}
			// All of them wait still, but what went out and came.
			p.acked(0, 0, 0, 9)
			if got := p.c.Waits(); got != waits-(len(want)-count) {
				t.Errorf("%d, and %d that wait: %d are left", count, waits, got)
			}
		}
	}
}

// Behind a Snap of 1001 bytes thirteen bits are left of 1024 bytes: room for three messages without fields.
func TestPackOfManyBytes(t *testing.T) {
	for _, x := range []struct{ snap, hellos, most int }{{1002, 5, 1}, {1001, 5, 3}, {1000, 7, 5}, {999, 9, 7}, {990, 20, 15}} {
		p := newPair(t)
		for range x.hellos {
			p.push(api.Message{Kind: api.Hello})
		}
		b := p.must(0, snap(x.snap))
		if got := len(list(t, b)) - 1; got != x.most || len(b) > 1024 {
			t.Errorf("%d bytes, %d wait: %d behind them, %d bytes", x.snap, x.hellos, got, len(b))
		}
		p.acked(0, 0, 0, 0)
		if got := p.c.Waits(); got != x.hellos-x.most {
			t.Errorf("%d bytes, %d wait: %d are left", x.snap, x.hellos, got)
		}
	}
}

// The first so many go out: what does not fit keeps back what is behind it, though that alone would fit.
func TestPackKeepsOrder(t *testing.T) {
	p := newPair(t)
	p.push(bound(1))
	p.push(snap(600))
	p.push(bound(2))
	if l := list(t, p.must(0, snap(500))); !same(l, []api.Message{snap(500), bound(1)}) {
		t.Errorf("%d messages", len(l))
	}
	p.acked(0, 0, 0, 0)
	if l := list(t, p.must(0, snap(500))); len(l) != 1 || p.c.Waits() != 2 {
		t.Errorf("%d messages", len(l))
	}
	// What was acknowledged had none of those that wait.
	p.acked(1, 1, 0, 0)
	if l := list(t, p.must(0)); !same(l, []api.Message{snap(600), bound(2)}) {
		t.Errorf("%d messages", len(l))
	}
	p.acked(2, 2, 0, 0)
	if p.c.Waits() != 0 {
		t.Errorf("%d wait", p.c.Waits())
	}
}

// A Snap may be right, and yet have more bytes than any datagram has room for: it waits, and all behind it.
func TestPackOfWhatNeverFits(t *testing.T) {
	p := newPair(t)
	if err := p.push(snap(1003)); err != api.OK {
		t.Fatal(err)
	}
	p.push(bound(1))
	for i := range 5 {
		if l := list(t, p.must(0, hellos(i)...)); len(l) != i {
			t.Errorf("%d messages", len(l))
		}
		p.acked(uint16(i), uint16(i), 0, 0)
	}
	if p.c.Waits() != 2 {
		t.Errorf("%d wait", p.c.Waits())
	}
	q := newPair(t)
	q.push(snap(1002))
	if l := list(t, q.must(0)); len(l) != 1 {
		t.Errorf("%d messages", len(l))
	}
}

// Messages that can't be encoded change nothing: no number is used, and nothing is sent.
func TestPackOfWrongMessages(t *testing.T) {
	for _, x := range []struct {
		l    []api.Message
		want api.Errno
	}{
		{[]api.Message{{}}, api.ErrArg}, {[]api.Message{{Kind: api.Hello}, {Kind: api.Bound}}, api.ErrArg},
		{append(hellos(16), api.Message{}), api.ErrArg}, {hellos(17), api.ErrFull}, {hellos(100), api.ErrFull},
		{[]api.Message{snap(1003)}, api.ErrFull}, {[]api.Message{snap(1023)}, api.ErrFull}, {[]api.Message{snap(500), snap(500)}, api.ErrFull},
	} {
		for _, waits := range []int{0, 1, 64} {
			p := newPair(t)
			for i := range waits {
				p.push(bound(i))
			}
			first := p.must(3)
			for range 70 {
				if b, err := p.pack(4, x.l...); len(b) != 0 || err != x.want {
					t.Fatalf("%d messages: %x %v, not %v", len(x.l), b, err, x.want)
				}
			}
			// The next one has the next number, and the first one is still remembered.
			second := p.must(5)
			if second[1] != 1 || !bytes.Equal(second[2:9], first[2:9]) {
				t.Errorf("%x behind %x", second, first)
			}
			p.acked(0, 0, 0, 10)
			if p.c.RTT() != 7 || p.c.Waits() != max(waits-16, 0) {
				t.Errorf("RTT %d, %d wait", p.c.RTT(), p.c.Waits())
			}
		}
	}
}

// Numbers go from 0 on, round and round, and what is acknowledged is known across that.
func TestNumbersGoRound(t *testing.T) {
	c := netchan.New()
	for i := range 65530 {
		b, err := c.Pack(nil, uint32(i))
		if err != api.OK || b[0] != byte(i>>8) || b[1] != byte(i) {
			t.Fatalf("%d: %x %v", i, b, err)
		}
	}
	if err := c.Push(bound(1)); err != api.OK {
		t.Fatal(err)
	}
	for i := 65530; i < 65536+40; i++ {
		b, err := c.Pack(nil, uint32(i))
		if d, _ := netchan.Decode(b); err != api.OK || int(d.Seq) != i%65536 || len(d.List) != 1 {
			t.Fatalf("%d: %x %v", i, b, err)
		}
	}
	for _, x := range []struct {
		seq, last  uint16
		bits       uint32
		rtt, waits int
	}{
		// 65468 to 65500 are remembered no longer.
		{0, 65500, 1<<32 - 1, 0, 1},
		// 65532 took 104, and behind it 0, that of this round, 100: (728 + 100 + 4) / 8.
		{1, 0, 1 << 3, 104, 0},
		// Both are forgotten.
		{2, 0, 1 << 3, 104, 0},
	} {
		_, err := c.Unpack(laid(x.seq, 1, x.last, x.bits, []byte{0}), 65636)
		if err != api.OK || c.Waits() != x.waits || c.RTT() != x.rtt {
			t.Errorf("%d: %v, RTT %d, %d wait", x.last, err, c.RTT(), c.Waits())
		}
	}
}

// Of those that were sent the last 64 are remembered.
func TestHowManyAreRemembered(t *testing.T) {
	for _, behind := range []int{0, 1, 62, 63, 64, 65, 200} {
		p := newPair(t)
		p.push(bound(1))
		for i := range behind + 1 {
			p.must(uint32(i))
		}
		p.acked(0, 0, 0, 500)
		if is := p.c.Waits() == 0; is != (behind < 64) || is != (p.c.RTT() == 500) {
			t.Errorf("%d behind it: %d wait, RTT %d", behind, p.c.Waits(), p.c.RTT())
		}
	}
}

// Those that were acknowledged were sent, too: though they are forgotten, none is remembered longer for that.
func TestForgottenOnesCount(t *testing.T) {
	p := newPair(t)
	p.push(bound(1))
	p.must(0)
	for i := 1; i < 64; i++ {
		p.must(uint32(i))
	}
	p.push(bound(2))
	p.must(64)
	// 10 had the first one alone.
	p.acked(0, 10, 0, 64)
	if p.c.Waits() != 1 || p.c.RTT() != 54 {
		t.Fatalf("%d wait, RTT %d", p.c.Waits(), p.c.RTT())
	}
	p.acked(1, 10, 1<<9, 99)
	if p.c.RTT() != 54 {
		t.Errorf("0 was remembered, though 64 were sent behind it: RTT %d", p.c.RTT())
	}
	p.acked(2, 10, 1<<8, 101)
	if p.c.RTT() != (7*54+100+4)/8 {
		t.Errorf("1 was not remembered: RTT %d", p.c.RTT())
	}
}

// Each of the numbers that an acknowledgement can tell of, alone: the last one there is was never sent, and the RTT tells which one is taken.
func TestWhichAreAcknowledged(t *testing.T) {
	for behind := 1; behind <= 32; behind++ {
		p := newPair(t)
		for i := range 40 {
			p.must(uint32(10 * i))
		}
		p.acked(0, 40, 1<<(behind-1), 1000)
		if got, want := p.c.RTT(), 1000-10*(40-behind); got != want {
			t.Errorf("%d behind: RTT %d, not %d", behind, got, want)
		}
	}
	for _, x := range []struct {
		last uint16
		bits uint32
		want int
	}{
		{0, 0, 1000}, {17, 0, 830}, {39, 0, 610}, {40, 0, 0}, {65535, 1<<32 - 1, 0}, {72, 1<<32 - 1, 0}, {71, 1<<32 - 1, 610}, {32807, 1<<32 - 1, 0},
		// Two of them: 0 first, and then 32.
		{32, 1 << 31, (7*1000 + 680 + 4) / 8},
	} {
		p := newPair(t)
		for i := range 40 {
			p.must(uint32(10 * i))
		}
		p.acked(0, x.last, x.bits, 1000)
		if got := p.c.RTT(); got != x.want {
			t.Errorf("%d %08X: RTT %d, not %d", x.last, x.bits, got, x.want)
		}
	}
}

// What does not acknowledge has 0 as the last one, and does not tell of the number 0.
func TestWhatDoesNotAcknowledge(t *testing.T) {
	p := newPair(t)
	p.push(bound(1))
	p.must(1)
	if l, err := p.unpack(laid(5, 0, 0, 0, said(t, bound(9))), 30); err != api.OK || !same(l, []api.Message{bound(9)}) {
		t.Errorf("%+v %v", l, err)
	}
	if p.c.Waits() != 1 || p.c.RTT() != 0 {
		t.Errorf("%d wait, RTT %d", p.c.Waits(), p.c.RTT())
	}
	if at, is := p.c.Heard(); at != 30 || !is {
		t.Errorf("%d %v", at, is)
	}
	p.acked(6, 0, 0, 31)
	if p.c.Waits() != 0 || p.c.RTT() != 30 {
		t.Errorf("%d wait, RTT %d", p.c.Waits(), p.c.RTT())
	}
}

// What Pack tells of the peer's numbers is what was taken of them.
func TestPackAcknowledges(t *testing.T) {
	p := newPair(t)
	for _, x := range []struct {
		seq, last uint16
		bits      uint32
		err       api.Errno
	}{
		{65534, 65534, 0, api.OK}, {0, 0, 2, api.OK}, {65535, 0, 3, api.OK}, {65535, 0, 3, api.ErrOld}, {0, 0, 3, api.ErrOld},
		{32, 32, 1 << 31, api.OK}, {65535, 32, 1 << 31, api.ErrOld}, {31, 32, 1<<31 + 1, api.OK}, {1000, 1000, 0, api.OK}, {968, 1000, 1 << 31, api.OK}, {967, 1000, 1 << 31, api.ErrOld}, {33768, 1000, 1 << 31, api.ErrOld}, {33767, 33767, 0, api.OK},
	} {
		if _, err := p.unpack(laid(x.seq, 0, 0, 0, []byte{0}), 1); err != x.err {
			t.Errorf("%d: %v", x.seq, err)
		}
		d, err := netchan.Decode(p.must(1))
		if err != api.OK || !d.Any || d.Last != x.last || d.Bits != x.bits {
			t.Errorf("%d: %+v %v", x.seq, d, err)
		}
	}
}

// How long it was under way: 0, if it was sent later than now, and at most 1000.
func TestSample(t *testing.T) {
	for _, x := range []struct {
		at, now uint32
		want    int
	}{
		{0, 0, 0}, {7, 7, 0}, {7, 8, 1}, {7, 107, 100}, {8, 7, 0}, {1<<32 - 1, 0, 0}, {1<<32 - 1, 1<<32 - 2, 0}, {1 << 31, 1<<31 - 1, 0},
		{0, 999, 999}, {0, 1000, 1000}, {0, 1001, 1000}, {5, 1004, 999}, {5, 1005, 1000}, {5, 1006, 1000},
		{0, 1 << 31, 1000}, {0, 1<<31 + 5, 1000}, {0, 1<<32 - 1, 1000}, {1<<32 - 10, 1<<32 - 1, 9}, {1 << 31, 1<<31 + 3, 3},
	} {
		p := newPair(t)
		p.must(x.at)
		p.acked(0, 0, 0, x.now)
		if got := p.c.RTT(); got != x.want {
			t.Errorf("sent at %d, now %d: %d, not %d", x.at, x.now, got, x.want)
		}
	}
}

// The first sample is the RTT; of each behind it an eighth counts, rounded.
func TestRTT(t *testing.T) {
	for _, x := range []struct{ samples, want []int }{
		{[]int{20, 20, 20}, []int{20, 20, 20}},
		{[]int{20, 18, 17, 16}, []int{20, 20, 20, 20}},
		{[]int{20, 23, 24, 25}, []int{20, 20, 21, 22}},
		{[]int{0, 3, 4, 12}, []int{0, 0, 1, 2}},
		{[]int{0, 0, 1000, 0}, []int{0, 0, 125, 109}},
		{[]int{1000, 0, 1000, 1000, 0}, []int{1000, 875, 891, 905, 792}},
		{[]int{1000, 5000, 996, 995}, []int{1000, 1000, 1000, 999}},
		{[]int{1, 0, 0}, []int{1, 1, 1}},
		{[]int{4, 0, 0, 0}, []int{4, 4, 4, 4}},
		{[]int{5, 0}, []int{5, 4}},
	} {
		p := newPair(t)
		for i, sample := range x.samples {
			p.must(10000)
			p.acked(uint16(i), uint16(i), 0, 10000+uint32(sample))
			if got := p.c.RTT(); got != x.want[i] {
				t.Errorf("%v, sample %d: %d, not %d", x.samples, i, got, x.want[i])
			}
		}
	}
}

// Of several at once each is a sample, in the order in which they were sent: another order would be seen.
func TestRTTOfSeveral(t *testing.T) {
	p := newPair(t)
	for _, at := range []uint32{900, 500, 0} {
		p.must(at)
	}
	p.acked(0, 2, 3, 1000)
	// 100; (700 + 500 + 4) / 8 = 150; (1050 + 1000 + 4) / 8 = 256.
	if got := p.c.RTT(); got != 256 {
		t.Errorf("%d", got)
	}
	// They are forgotten: none of them is a sample twice.
	p.acked(1, 2, 3, 1001)
	if got := p.c.RTT(); got != 256 {
		t.Errorf("%d", got)
	}
	// What was never sent is none either.
	p.acked(2, 40, 1<<32-1, 1001)
	p.acked(3, 65535, 1<<32-1, 1001)
	if got := p.c.RTT(); got != 256 {
		t.Errorf("%d", got)
	}
}

// Numbers across the point where they go round are told of in the order in which they were sent, too.
func TestRTTWhereNumbersGoRound(t *testing.T) {
	c := netchan.New()
	for range 65535 {
		if _, err := c.Pack(nil, 0); err != api.OK {
			t.Fatal(err)
		}
	}
	for _, at := range []uint32{900, 500} {
		if _, err := c.Pack(nil, at); err != api.OK {
			t.Fatal(err)
		}
	}
	if _, err := c.Unpack(laid(0, 1, 0, 1, []byte{0}), 1000); err != api.OK || c.RTT() != 150 {
		t.Errorf("%v, RTT %d", err, c.RTT())
	}
}

// Heard tells of the last one that was taken, whatever the clock says, and whatever came behind it.
func TestHeard(t *testing.T) {
	p := newPair(t)
	for _, x := range []struct {
		b    []byte
		now  uint32
		want uint32
	}{
		{laid(1, 0, 0, 0, []byte{0}), 0, 0}, {laid(5, 0, 0, 0, []byte{0}), 50, 50}, {laid(5, 0, 0, 0, []byte{0}), 60, 50}, {laid(4, 0, 0, 0, []byte{0}), 40, 40},
		{[]byte{1}, 70, 40}, {laid(6, 2, 0, 0, []byte{0}), 71, 40}, {laid(6, 0, 0, 0, []byte{8}), 72, 40}, {nil, 73, 40}, {laid(6, 0, 0, 0, []byte{0}), 1<<32 - 1, 1<<32 - 1}, {laid(65500, 0, 0, 0, []byte{0}), 5, 1<<32 - 1},
	} {
		p.unpack(x.b, x.now)
		if at, is := p.c.Heard(); at != x.want || !is {
			t.Errorf("%x at %d: %d %v, not %d", x.b, x.now, at, is, x.want)
		}
	}
}

// What is refused changes nothing, though it acknowledges; each error is Decode's.
func TestRefusedChangesNothing(t *testing.T) {
	p := newPair(t)
	p.push(bound(1))
	p.must(10)
	p.unpack(laid(40, 0, 0, 0, []byte{0}), 11)
	before := p.must(12)
	good := laid(41, 1, 1, 1, []byte{0})
	turned := bytes.Clone(good)
	turned[4] ^= 1
	for _, x := range []struct {
		b    []byte
		want api.Errno
	}{
		{nil, api.ErrShort}, {good[:10], api.ErrShort}, {good[:11], api.ErrSum}, {turned, api.ErrSum}, {laid(41, 2, 1, 1, []byte{0}), api.ErrForm}, {laid(41, 0, 1, 1, []byte{0}), api.ErrForm},
		{laid(41, 1, 1, 1, []byte{8}), api.ErrShort}, {laid(41, 1, 1, 1, []byte{0, 0}), api.ErrForm}, {laid(41, 1, 1, 1, make([]byte, 1014)), api.ErrForm},
		{laid(40, 1, 1, 1, said(t, bound(3))), api.ErrOld}, {laid(7, 1, 1, 1, []byte{0}), api.ErrOld}, {laid(40000, 1, 1, 1, []byte{0}), api.ErrOld},
	} {
		l, err := p.unpack(x.b, 100)
		if len(l) != 0 || err != x.want || p.c.Waits() != 1 || p.c.RTT() != 0 {
			t.Errorf("%x: %+v %v, not %v; %d wait, RTT %d", x.b, l, err, x.want, p.c.Waits(), p.c.RTT())
		}
	}
	// The next one acknowledges the same as the one ahead of all that.
	if after := p.must(13); after[1] != before[1]+1 || !bytes.Equal(after[2:9], before[2:9]) {
		t.Errorf("%x behind %x", after, before)
	}
	p.unpack(good, 101)
	if p.c.Waits() != 0 || p.c.RTT() != (7*91+89+4)/8 {
		t.Errorf("%d wait, RTT %d", p.c.Waits(), p.c.RTT())
	}
}

// The same message, pushed twice, waits twice, and each goes by itself.
func TestTheSameMessageTwice(t *testing.T) {
	p := newPair(t)
	p.push(bound(7))
	p.must(0)
	p.push(bound(7))
	if l := list(t, p.must(0)); !same(l, []api.Message{bound(7), bound(7)}) {
		t.Errorf("%+v", l)
	}
	p.acked(0, 0, 0, 0)
	if l := list(t, p.must(0)); !same(l, []api.Message{bound(7)}) || p.c.Waits() != 1 {
		t.Errorf("%+v", l)
	}
	// The third one has the second message, and that alone.
	p.push(bound(7))
	p.acked(1, 2, 0, 0)
	if p.c.Waits() != 1 {
		t.Errorf("%d wait", p.c.Waits())
	}
}

// An older datagram, that is acknowledged late, had what does not wait any more; what was pushed since then waits on.
func TestAcknowledgedLate(t *testing.T) {
	p := newPair(t)
	p.push(bound(0))
	p.push(bound(1))
	p.must(0)
	p.push(bound(2))
	p.must(1)
	p.push(bound(3))
	p.must(2)
	p.acked(0, 1, 0, 3)
	if p.c.Waits() != 1 {
		t.Fatalf("%d wait", p.c.Waits())
	}
	p.push(bound(4))
	p.acked(1, 1, 1, 3)
	if l := list(t, p.must(4)); !same(l, []api.Message{bound(3), bound(4)}) {
		t.Errorf("%+v", l)
	}
	// A datagram that had none of those that wait takes none off.
	q := newPair(t)
	q.must(0)
	q.push(bound(0))
	q.acked(0, 0, 0, 0)
	if q.c.Waits() != 1 {
		t.Errorf("%d wait", q.c.Waits())
	}
}

// What is handed in stays, and is not kept; what is told is the caller's.
func TestChannelsKeepNothingOfTheCaller(t *testing.T) {
	held := []byte("abcdefgh")
	c := netchan.New()
	if err := c.Push(api.Message{Kind: api.Snap, Bytes: held[2:5]}); err != api.OK {
		t.Fatal(err)
	}
	copy(held, "........")
	l := append(make([]api.Message, 0, 9), api.Message{Kind: api.Bye})
	one, err := c.Pack(l, 0)
	if err != api.OK || l[:2][1].Kind != 0 || string(held) != "........" {
		t.Fatalf("%v %+v %s", err, l[:2], held)
	}
	clear(one)
	two, _ := c.Pack(nil, 0)
	if got := list(t, two); len(got) != 1 || string(got[0].Bytes) != "cde" {
		t.Errorf("%+v", got)
	}
	d := netchan.New()
	got, err := d.Unpack(two, 0)
	clear(two)
	if err != api.OK || len(got) != 1 || string(got[0].Bytes) != "cde" {
		t.Fatalf("%+v %v", got, err)
	}
	got[0].Bytes[0] = 'x'
	three, _ := c.Pack(nil, 0)
	if got := list(t, three); string(got[0].Bytes) != "cde" {
		t.Errorf("%+v", got)
	}
}

func TestTwoChannels(t *testing.T) {
	p, q := newPair(t), newPair(t)
	for i := range 50 {
		p.push(bound(i))
		p.must(uint32(i))
		q.same()
		q.unpack(laid(uint16(i), 1, uint16(i), 0, []byte{0}), uint32(i)+100)
		p.same()
	}
	if p.c.Waits() != 50 || q.c.Waits() != 0 || p.c.RTT() != 0 || q.c.RTT() != 0 {
		t.Errorf("%d and %d wait", p.c.Waits(), q.c.Waits())
	}
	if b := q.must(0); b[1] != 0 {
		t.Errorf("%x", b)
	}
}
