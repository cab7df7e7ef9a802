package message_test

import (
	"bytes"
	"testing"

	"embrasure/api"
	"embrasure/message"
)

// encode is the bytes of messages that have some.
func encode(t *testing.T, l []api.Message) []byte {
	t.Helper()
	b, err := message.Encode(l)
	if err != api.OK {
		t.Fatalf("%+v: %v", l, err)
	}
	return b
}

// refused holds Encode against an error.
func refused(t *testing.T, l []api.Message, want api.Errno) {
	t.Helper()
	if b, err := message.Encode(l); len(b) != 0 || err != want {
		t.Errorf("%d messages: %d bytes, %v, not %v", len(l), len(b), err, want)
	}
}

// decoded holds Decode against the model, and what it tells against Encode: there is one row of bytes of each row of messages.
func decoded(t *testing.T, b []byte) api.Errno {
	t.Helper()
	l, err := message.Decode(b)
	want, wrong := told(b)
	if err != wrong || !same(l, want) {
		t.Errorf("%x: %+v %v, not %+v %v", b, l, err, want, wrong)
	}
	if err == api.OK {
		if again, err := message.Encode(l); err != api.OK || !bytes.Equal(again, b) {
			t.Errorf("%x: %x behind Encode, %v", b, again, err)
		}
	}
	return err
}

// failed holds Decode against an error, and the model too.
func failed(t *testing.T, b []byte, want api.Errno) {
	t.Helper()
	if err := decoded(t, b); err != want {
		t.Errorf("%x: %v, not %v", b, err, want)
	}
}

// many is so many messages that say nothing more.
func many(count int) []api.Message {
	l := make([]api.Message, count)
	for i := range l {
		l[i].Kind = api.Hello + i%2*(api.Bye-api.Hello)
	}
	return l
}

func snap(size int) api.Message {
	return api.Message{Kind: api.Snap, Tick: 0xA5A5A5A5, Base: 0x0F0F0F0F, Bytes: mixed(size, size)}
}

// Bytes that are written out: the fields of each kind in their order, and their bits.
func TestBytesOfEachKind(t *testing.T) {
	for _, x := range []struct {
		want string
		l    []api.Message
	}{
		{"\x00", nil},
		{"\x00", []api.Message{}},
		{"\x08\x80", []api.Message{{Kind: api.Hello}}},
		{"\x0A\x00", []api.Message{{Kind: api.Bye}}},
		{"\x12\x08", []api.Message{{Kind: api.Bye}, {Kind: api.Hello}}},
		{"\x0A\x80\x00\x00\x03", []api.Message{{Kind: api.Welcome, ID: 3}}},
		// 00001 0010, 0001001000110100, 10, 10000000, 01111111, 111.
		{"\x09\x09\x1A\x50\x0F\xFC", []api.Message{{Kind: api.Move, Cmd: api.Command{Seq: 0x1234, Buttons: api.Slide, Dx: -128, Dy: 127, Ticks: 8}}}},
		// 00001 0011, 1000000000000001, 1, 010000000000000000, 110000000000000000, 111111111111111111.
		{"\x09\xC0\x00\xD0\x00\x0C\x00\x03\xFF\xFF", []api.Message{{Kind: api.Fire, Prov: 0x8001, Shot: api.Grenade, Dir: api.Vec{X: api.One, Y: -api.One, Z: -1}}}},
		// 00001 0110, 0000000000000001, and six of 32.
		{"\x0B\x00\x00\x80\x00\x00\x00\x40\x00\x00\x00\x00\x00\x00\x01\x00\x00\x00\x01\xBF\xFF\xFF\xFF\xFF\xFF\xFF\xFF\x00", []api.Message{{Kind: api.Moved, Seq: 1, Pos: api.Vec{X: 0, Y: -1 << 31, Z: 2}, Vel: api.Vec{X: 3, Y: 1<<31 - 1, Z: -2}}}},
		// 00001 0111, 0000000000000010, and 31 with a 1 at either end.
		{"\x0B\x80\x01\x40\x00\x00\x01", []api.Message{{Kind: api.Bound, Prov: 2, ID: 1<<30 + 1}}},
		// 00001 1000, 1111111111111111, 1010.
		{"\x0C\x7F\xFF\xD0", []api.Message{{Kind: api.Denied, Prov: 65535, Why: api.ErrDead}}},
		// 00001 1001, 32, 32, 0000000010, 11111111, 00000001.
		{"\x0C\x80\x00\x00\x00\x80\x00\x00\x01\x00\x5F\xE0\x20", []api.Message{{Kind: api.Snap, Tick: 1, Base: 2, Bytes: []byte{255, 1}}}},
	} {
		if b := encode(t, x.l); string(b) != x.want {
			t.Errorf("%+v: %x, not %x", x.l, b, x.want)
		}
		l, err := message.Decode([]byte(x.want))
		if err != api.OK || !same(l, x.l) {
			t.Errorf("%x: %+v %v", x.want, l, err)
		}
	}
}

func TestEncodeOfEachRow(t *testing.T) {
	for _, l := range rows() {
		b := encode(t, l)
		if want := packed(laid(l)); !bytes.Equal(b, want) {
			t.Errorf("%+v: %x, not %x", l, b, want)
		}
		failed(t, b, api.OK)
	}
}

// Each field at its ends and beside them goes out, and comes back.
func TestEndsComeBack(t *testing.T) {
	for kind := 1; kind <= 9; kind++ {
		for _, p := range parts(kind) {
			for _, n := range []int64{p.least, p.least + 1, p.most - 1, p.most, min(p.most, max(p.least, 0))} {
				if p.name == "Bytes" {
					// 1023 are right, and have no room: see TestTooManyBytes.
					n = min(n, 1000)
				}
				m := plain(kind, 1)
				set(&m, p.name, n)
				l := []api.Message{{Kind: api.Bye}, m, {Kind: api.Hello}}
				b := encode(t, l)
				back, err := message.Decode(b)
				if err != api.OK || !same(back, l) || !bytes.Equal(b, packed(laid(l))) {
					t.Errorf("%+v: %x, %+v %v", m, b, back, err)
				}
			}
		}
	}
}

func TestTooManyMessages(t *testing.T) {
	failed(t, encode(t, many(15)), api.OK)
	failed(t, encode(t, many(16)), api.OK)
	for _, count := range []int{17, 18, 31, 32, 33, 48, 1000} {
		refused(t, many(count), api.ErrFull)
	}
}

// One that is not right tells ahead of all else, wherever it stands.
func TestOneThatIsNotRight(t *testing.T) {
	for _, count := range []int{1, 2, 16, 17, 40} {
		for at := range count {
			l := many(count)
			l[at] = api.Message{Kind: api.Welcome}
			refused(t, l, api.ErrArg)
		}
	}
	refused(t, []api.Message{snap(1023), snap(1023), {}}, api.ErrArg)
	refused(t, []api.Message{{}, snap(1023), snap(1023)}, api.ErrArg)
	refused(t, make([]api.Message, 17), api.ErrArg)
}

// A Snap has 78 bits ahead of its bytes, and 5 are ahead of it: behind 1013 bytes of it five bits are left of 1024 bytes.
func TestTooManyBytes(t *testing.T) {
	for _, size := range []int{1000, 1012, 1013} {
		failed(t, encode(t, []api.Message{snap(size)}), api.OK)
	}
	for size := 1014; size <= 1023; size++ {
		refused(t, []api.Message{snap(size)}, api.ErrFull)
	}
	for _, l := range [][]api.Message{{snap(1013), {Kind: api.Hello}}, {{Kind: api.Bye}, snap(1013)}} {
		b := encode(t, l)
		if len(b) != 1024 {
			t.Errorf("%d bytes", len(b))
		}
		failed(t, b, api.OK)
		refused(t, append(l, api.Message{Kind: api.Hello}), api.ErrFull)
	}
	// Two of them: 161 bits ahead of the bytes, so that 1003 have room.
	failed(t, encode(t, []api.Message{snap(500), snap(503)}), api.OK)
	refused(t, []api.Message{snap(500), snap(504)}, api.ErrFull)
	var l []api.Message
	for range 16 {
		l = append(l, snap(1023))
	}
	refused(t, l, api.ErrFull)
	refused(t, append(l, snap(1)), api.ErrFull)
}

func TestDecodeOfFewBytes(t *testing.T) {
	failed(t, nil, api.ErrShort)
	failed(t, []byte{}, api.ErrShort)
	for x := range 256 {
		decoded(t, []byte{byte(x)})
		for y := range 256 {
			decoded(t, []byte{byte(x), byte(y)})
		}
	}
}

// How many there are is asked ahead of all else: from 17 on nothing has to be there for it to be wrong.
func TestDecodeOfTooMany(t *testing.T) {
	for count := 17; count < 32; count++ {
		failed(t, packed(digits(int64(count), 5)), api.ErrForm)
		text := digits(int64(count), 5)
		for range count {
			text += digits(api.Hello, 4)
		}
		failed(t, packed(text), api.ErrForm)
	}
	for count := 1; count <= 16; count++ {
		failed(t, packed(digits(int64(count), 5) + "0")[:0], api.ErrShort)
	}
}

func TestDecodeOfBytesCutOff(t *testing.T) {
	l := rows()
	l = append(l, []api.Message{snap(300), snap(0), snap(1)})
	for _, l := range l {
		b := encode(t, l)
		for size := range b {
			failed(t, b[:size], api.ErrShort)
		}
	}
}

// Cut off, so that noughts which fill up the byte are read as the field, if there are enough of them.
func TestDecodeOfBitsCutOff(t *testing.T) {
	for kind := 1; kind <= 9; kind++ {
		for turn := range 5 {
			text := laid([]api.Message{{Kind: api.Hello}, plain(kind, turn), plain(kind, turn+1)})
			for size := range text {
				decoded(t, packed(text[:size]))
			}
		}
	}
}

func TestDecodeOfBytesBehind(t *testing.T) {
	for _, l := range rows() {
		b := encode(t, l)
		failed(t, append(bytes.Clone(b), 0), api.ErrForm)
		failed(t, append(bytes.Clone(b), 0, 0, 0), api.ErrForm)
		failed(t, append(bytes.Clone(b), b...), api.ErrForm)
		failed(t, append(bytes.Clone(b), 0x80), api.ErrForm)
		// Each of the bits that fill up the last byte.
		for i := range 8*len(b) - len(laid(l)) {
			turned := bytes.Clone(b)
			turned[len(b)-1] ^= 1 << i
			failed(t, turned, api.ErrForm)
		}
	}
}

// around is the bits of one message up to a field, and those behind that field.
func around(m api.Message, name string) (ahead, behind string) {
	ahead = digits(1, 5) + digits(int64(m.Kind), 4)
	to := &ahead
	for _, p := range parts(m.Kind) {
		if p.name == name {
			to = &behind
			continue
		}
		*to += digits(get(m, p.name), p.bits)
	}
	return ahead, behind
}

// A number that is wrong tells, whether or not what is behind it is there; one that is cut off itself is lacking.
func TestDecodeOfWrongFields(t *testing.T) {
	for kind := 1; kind <= 9; kind++ {
		for _, p := range parts(kind) {
			ahead, behind := around(plain(kind, 2), p.name)
			for _, n := range []int64{0, p.least - 1, p.most + 1, -1, 1 << (p.bits - 1), 1<<(p.bits-1) - 1, 15} {
				text := digits(n, p.bits)
				if got := value(p, text); got >= p.least && got <= p.most {
					continue
				}
				failed(t, packed(ahead+text), api.ErrForm)
				failed(t, packed(ahead+text+behind), api.ErrForm)
				whole := (len(ahead) + p.bits - 1) / 8
				failed(t, packed(ahead + text)[:whole], api.ErrShort)
			}
		}
	}
	for _, kind := range []int64{0, 10, 11, 12, 13, 14, 15} {
		for ahead := range 15 {
			text := digits(int64(ahead+2), 5)
			for range ahead {
				text += digits(api.Bye, 4)
			}
			text += digits(kind, 4)
			failed(t, packed(text), api.ErrForm)
			failed(t, packed(text+digits(api.Hello, 4)), api.ErrForm)
			failed(t, packed(text+digits(0, 40)), api.ErrForm)
		}
	}
}

// Messages that are whole, and have more bytes than a datagram may, are none's; where some are lacking, that tells.
func TestDecodeOfTooManyBytes(t *testing.T) {
	for _, size := range []int{1014, 1015, 1023} {
		b := packed(laid([]api.Message{snap(size)}))
		if len(b) <= 1024 {
			t.Fatalf("%d bytes", len(b))
		}
		failed(t, b, api.ErrForm)
		failed(t, b[:len(b)-1], api.ErrShort)
		failed(t, b[:1024], api.ErrShort)
	}
	b := packed(laid([]api.Message{snap(1013), {Kind: api.Hello}, {Kind: api.Hello}}))
	failed(t, b, api.ErrForm)
	failed(t, b[:1024], api.ErrShort)
	b = packed(laid([]api.Message{snap(1023), snap(1023), snap(1023)}))
	failed(t, b, api.ErrForm)
	for _, size := range []int{1023, 1024, 1025, 2000, len(b) - 1} {
		failed(t, b[:size], api.ErrShort)
	}
	failed(t, make([]byte, 1<<20), api.ErrForm)
	failed(t, bytes.Repeat([]byte{0xFF}, 1<<20), api.ErrForm)
}

// Bytes of all sorts, and those of messages with some bits turned.
func TestDecodeOfAnyBytes(t *testing.T) {
	for seed := range 20000 {
		b := mixed(seed%60, seed)
		if len(b) > 1 {
			// Few messages, and a kind that there is: so that most go some way.
			b[0] = byte(1+seed%3)<<3 | byte((seed%9+1)>>1)
			b[1] = byte(seed%9+1)<<7 | b[1]&0x7F
		}
		decoded(t, b)
	}
	for _, l := range rows()[:100] {
		whole := encode(t, l)
		for i := range 8 * len(whole) {
			b := bytes.Clone(whole)
			b[i/8] ^= 0x80 >> (i % 8)
			decoded(t, b)
		}
	}
}

// What is handed in stays, what is beside it too.
func TestEncodeLeavesWhatItIsHanded(t *testing.T) {
	held := []byte("abcdefgh")
	l := []api.Message{{Kind: api.Move, Cmd: api.Command{Ticks: 2}}, {Kind: api.Snap, Bytes: held[2:5]}, {Kind: api.Bound, ID: 4}, {Kind: 77}}
	was := append([]api.Message(nil), l...)
	b := encode(t, l[:3])
	refused(t, l, api.ErrArg)
	if !same(l, was) || string(held) != "abcdefgh" {
		t.Errorf("%+v %s", l, held)
	}
	text := string(b)
	copy(held, "........")
	l[0], l[2] = api.Message{}, api.Message{}
	if string(b) != text {
		t.Error("what was told hangs on what was handed in")
	}
	for i := range b {
		b[i] = 0
	}
	if string(held) != "........" {
		t.Error("what was handed in hangs on what was told")
	}
	if again := encode(t, was[:1]); string(again) != string(packed(laid(was[:1]))) {
		t.Errorf("%x", again)
	}
}

func TestDecodeTellsWhatIsNew(t *testing.T) {
	l := []api.Message{{Kind: api.Snap, Tick: 1, Bytes: []byte("abc")}, {Kind: api.Snap, Tick: 2, Bytes: []byte("defg")}, {Kind: api.Hello}}
	b := encode(t, l)
	text := string(b)
	one, _ := message.Decode(b)
	two, _ := message.Decode(b)
	if string(b) != text {
		t.Error("what was handed in is changed")
	}
	clear(b)
	if !same(one, l) || !same(two, l) {
		t.Fatalf("what was told hangs on what was handed in: %+v %+v", one, two)
	}
	// Written over, and written behind: none but that list is changed.
	one[0].Bytes[0] = 'x'
	one[0].Bytes = append(one[0].Bytes, "yyyyyyyyyyyy"...)
	one[2].Kind = api.Bye
	_ = append(one[:1], api.Message{Kind: 99})
	if !same(two, l) {
		t.Errorf("two answers share something: %+v", two)
	}
	two[0].Bytes = append(two[0].Bytes, "zzzzzzzzzzzz"...)
	if string(two[1].Bytes) != "defg" {
		t.Errorf("two lists of an answer share something: %+v", two)
	}
}

// Each field of a message that its kind does not have is nought, whatever came ahead of it.
func TestDecodeLeavesOthersNought(t *testing.T) {
	var l []api.Message
	for i := range 16 {
		l = append(l, plain(9-i%9, 5))
	}
	back, err := message.Decode(encode(t, l))
	if err != api.OK || !same(back, l) {
		t.Fatalf("%+v %v", back, err)
	}
	for _, m := range back {
		right(t, m, true)
	}
}
