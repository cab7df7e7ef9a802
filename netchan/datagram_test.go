package netchan_test

import (
	"bytes"
	"testing"

	"embrasure/api"
	"embrasure/message"
	"embrasure/netchan"
)

func sameDatagram(a, b netchan.Datagram) bool {
	return a.Seq == b.Seq && a.Any == b.Any && a.Last == b.Last && a.Bits == b.Bits && same(a.List, b.List)
}

// refused holds Encode against an error.
func refused(t *testing.T, d netchan.Datagram, want api.Errno) {
	t.Helper()
	if b, err := netchan.Encode(d); len(b) != 0 || err != want {
		t.Errorf("%d messages, %v %d %08X: %d bytes, %v, not %v", len(d.List), d.Any, d.Last, d.Bits, len(b), err, want)
	}
}

// told is what Decode must answer, as the document tells it.
func told(b []byte) (netchan.Datagram, api.Errno) {
	var none netchan.Datagram
	if len(b) < 11 {
		return none, api.ErrShort
	}
	end := len(b) - 2
	if sum := slow(b[:end]); b[end] != byte(sum>>8) || b[end+1] != byte(sum) {
		return none, api.ErrSum
	}
	ack := 0
	for _, x := range b[3:9] {
		ack += int(x)
	}
	if len(b) > 1024 || b[2] > 1 || b[2] == 0 && ack > 0 {
		return none, api.ErrForm
	}
	l, err := message.Decode(b[9:end])
	if err != api.OK {
		return none, err
	}
	d := netchan.Datagram{Seq: uint16(b[0])<<8 + uint16(b[1]), Any: b[2] == 1, Last: uint16(b[3])<<8 + uint16(b[4]), List: l}
	for _, x := range b[5:9] {
		d.Bits = d.Bits*256 + uint32(x)
	}
	return d, api.OK
}

// failed holds Decode against an error and against what it must tell, and what it tells against Encode: there is one row of bytes of each datagram.
func failed(t *testing.T, b []byte, want api.Errno) {
	t.Helper()
	text := string(b)
	d, err := netchan.Decode(b)
	tells, wrong := told(b)
	if err != want || wrong != want || !sameDatagram(d, tells) {
		t.Errorf("%x: %+v %v, not %+v %v or %v", b, d, err, tells, wrong, want)
	}
	if string(b) != text {
		t.Errorf("%x is %x", text, b)
	}
	if err != api.OK {
		return
	}
	if again, err := netchan.Encode(d); err != api.OK || string(again) != text {
		t.Errorf("%x: %x behind Encode, %v", text, again, err)
	}
}

// Bytes that are written out.
func TestBytesOfDatagrams(t *testing.T) {
	hello := []api.Message{{Kind: api.Hello}}
	for _, x := range []struct {
		d    netchan.Datagram
		want string
	}{
		{netchan.Datagram{}, "\x00\x00\x00\x00\x00\x00\x00\x00\x00\x00\xE1\x39"},
		{netchan.Datagram{Seq: 1, List: []api.Message{}}, "\x00\x01\x00\x00\x00\x00\x00\x00\x00\x00\x0A\x1A"},
		{netchan.Datagram{Any: true}, "\x00\x00\x01\x00\x00\x00\x00\x00\x00\x00\xA6\xEA"},
		{netchan.Datagram{Seq: 0x0102, Any: true, Last: 0x0304, Bits: 0x05060708, List: hello}, "\x01\x02\x01\x03\x04\x05\x06\x07\x08\x08\x80\x5E\x75"},
		{netchan.Datagram{Seq: 0xFFFE, Any: true, Last: 0xFDFC, Bits: 0xFBFAF9F8, List: hello}, "\xFF\xFE\x01\xFD\xFC\xFB\xFA\xF9\xF8\x08\x80\xF7\x72"},
	} {
		b, err := netchan.Encode(x.d)
		if err != api.OK || string(b) != x.want {
			t.Errorf("%+v: %x %v, not %x", x.d, b, err, x.want)
		}
		d, err := netchan.Decode([]byte(x.want))
		if err != api.OK || !sameDatagram(d, x.d) {
			t.Errorf("%x: %+v %v", x.want, d, err)
		}
		failed(t, []byte(x.want), api.OK)
	}
}

func TestDatagramsComeBack(t *testing.T) {
	for i := range 400 {
		d := netchan.Datagram{Seq: uint16(i * 777), Any: i%3 > 0, List: row(i%17, i)}
		any := byte(0)
		if d.Any {
			d.Last, d.Bits, any = uint16(i*4099), uint32(i)*2654435761, 1
		}
		b, err := netchan.Encode(d)
		if err != api.OK || !bytes.Equal(b, laid(d.Seq, any, d.Last, d.Bits, said(t, d.List...))) {
			t.Fatalf("%+v: %x %v", d, b, err)
		}
		if back, err := netchan.Decode(b); err != api.OK || !sameDatagram(back, d) {
			t.Fatalf("%+v: %+v %v", d, back, err)
		}
		failed(t, b, api.OK)
	}
}

func TestEncodeOfWhatAcknowledgesNothing(t *testing.T) {
	for _, d := range []netchan.Datagram{{Last: 1}, {Last: 256}, {Last: 65535}, {Bits: 1}, {Bits: 1 << 31}, {Last: 1, Bits: 1}, {Seq: 5, Bits: 1 << 16}} {
		refused(t, d, api.ErrArg)
		// Ahead of what is wrong with the messages.
		d.List = hellos(17)
		refused(t, d, api.ErrArg)
		d.List = []api.Message{snap(1023)}
		refused(t, d, api.ErrArg)
		d.Any, d.List = true, nil
		if _, err := netchan.Encode(d); err != api.OK {
			t.Errorf("%+v: %v", d, err)
		}
	}
}

func TestEncodeOfWrongMessages(t *testing.T) {
	for _, any := range []bool{false, true} {
		refused(t, netchan.Datagram{Any: any, List: []api.Message{{}}}, api.ErrArg)
		refused(t, netchan.Datagram{Any: any, List: []api.Message{{Kind: api.Hello}, {Kind: 99}}}, api.ErrArg)
		refused(t, netchan.Datagram{Any: any, List: append(hellos(20), api.Message{Kind: api.Welcome})}, api.ErrArg)
		refused(t, netchan.Datagram{Any: any, List: []api.Message{snap(1023), {Kind: api.Bound}}}, api.ErrArg)
		refused(t, netchan.Datagram{Any: any, List: hellos(17)}, api.ErrFull)
		refused(t, netchan.Datagram{Any: any, List: hellos(1000)}, api.ErrFull)
		for _, size := range []int{1014, 1023} {
			refused(t, netchan.Datagram{Any: any, List: []api.Message{snap(size)}}, api.ErrFull)
		}
		if b, err := netchan.Encode(netchan.Datagram{Any: any, List: hellos(16)}); err != api.OK || len(b) != 11+9 {
			t.Errorf("16 messages: %x %v", b, err)
		}
	}
}

// A Snap alone is eleven bytes more than those it has, and a datagram eleven more again: 1002 have room. Messages alone would have room up to 1013.
func TestEncodeOfManyBytes(t *testing.T) {
	for _, size := range []int{1000, 1001, 1002} {
		b, err := netchan.Encode(netchan.Datagram{Seq: 9, List: []api.Message{snap(size)}})
		if err != api.OK || len(b) != size+22 {
			t.Errorf("%d: %d bytes, %v", size, len(b), err)
		}
		failed(t, b, api.OK)
	}
	for size := 1003; size <= 1023; size++ {
		refused(t, netchan.Datagram{Seq: 9, List: []api.Message{snap(size)}}, api.ErrFull)
	}
	// Five bits are left behind it: room for one message without fields.
	if b, err := netchan.Encode(netchan.Datagram{List: []api.Message{snap(1002), {Kind: api.Hello}}}); err != api.OK || len(b) != 1024 {
		t.Errorf("%d bytes, %v", len(b), err)
	}
	refused(t, netchan.Datagram{List: []api.Message{snap(1002), {Kind: api.Hello}, {Kind: api.Bye}}}, api.ErrFull)
}

// Fewer than eleven bytes are too short, whatever they are, and whatever their sum.
func TestDecodeOfFewBytes(t *testing.T) {
	failed(t, nil, api.ErrShort)
	for size := range 11 {
		failed(t, make([]byte, size), api.ErrShort)
		failed(t, bytes.Repeat([]byte{255}, size), api.ErrShort)
		for seed := range 20 {
			failed(t, mixed(size, seed), api.ErrShort)
			if size >= 2 {
				failed(t, summed(mixed(size-2, seed)), api.ErrShort)
			}
		}
	}
	// Eleven bytes have room for no messages: all else is asked ahead of that.
	failed(t, make([]byte, 11), api.ErrSum)
	failed(t, laid(1, 0, 0, 0, nil), api.ErrShort)
	failed(t, laid(1, 1, 2, 3, nil), api.ErrShort)
	failed(t, laid(1, 2, 0, 0, nil), api.ErrForm)
	failed(t, laid(1, 0, 1, 0, nil), api.ErrForm)
}

// Each bit turned is another sum, wherever it is, and so is each byte that is cut off.
func TestDecodeOfAnotherSum(t *testing.T) {
	for _, l := range [][]api.Message{nil, hellos(1), row(9, 3), {snap(1002)}} {
		whole := laid(0x1234, 1, 0x5678, 0x9ABCDEF0, said(t, l...))
		failed(t, whole, api.OK)
		for i := range 8 * len(whole) {
			b := bytes.Clone(whole)
			b[i/8] ^= 1 << (i % 8)
			failed(t, b, api.ErrSum)
		}
		// The sum, the lower byte first.
		b := bytes.Clone(whole)
		end := len(b)
		b[end-2], b[end-1] = b[end-1], b[end-2]
		failed(t, b, api.ErrSum)
	}
	// Ahead of all that is wrong behind it.
	for _, b := range [][]byte{laid(1, 7, 0, 0, []byte{0}), laid(1, 0, 0, 1, []byte{0}), laid(1, 0, 0, 0, []byte{8}), laid(1, 0, 0, 0, make([]byte, 2000))} {
		b[0] ^= 1
		failed(t, b, api.ErrSum)
	}
}

func TestDecodeOfWrongForm(t *testing.T) {
	for any := range 256 {
		want := api.ErrForm
		if any < 2 {
			want = api.OK
		}
		failed(t, laid(7, byte(any), 0, 0, said(t, hellos(3)...)), want)
		// Ahead of what is wrong with the messages: here a field is lacking.
		if any > 1 {
			failed(t, laid(7, byte(any), 0, 0, []byte{8}), api.ErrForm)
		}
	}
	for i := range 48 {
		last, bits := uint16(0), uint32(1)<<i
		if i >= 32 {
			last = 1 << (i - 32)
		}
		failed(t, laid(7, 0, last, bits, said(t)), api.ErrForm)
		failed(t, laid(7, 0, last, bits, []byte{8}), api.ErrForm)
		failed(t, laid(7, 1, last, bits, said(t)), api.OK)
	}
}

// Bytes that are more than a datagram may have are of wrong form, whatever they say, as long as their sum is right.
func TestDecodeOfManyBytes(t *testing.T) {
	for _, size := range []int{1002, 1003, 1004, 1013} {
		want := api.OK
		if size > 1002 {
			want = api.ErrForm
		}
		failed(t, laid(7, 1, 2, 3, said(t, snap(size))), want)
	}
	// Of messages that are cut off: ErrShort, up to 1024 bytes.
	cut := said(t, snap(1013))
	for _, size := range []int{1012, 1013} {
		failed(t, laid(7, 1, 2, 3, cut[:size]), api.ErrShort)
	}
	for _, size := range []int{1014, 1015} {
		failed(t, laid(7, 1, 2, 3, cut[:size]), api.ErrForm)
	}
	for _, size := range []int{1014, 1 << 12, 1 << 16, 1<<16 + 1, 1 << 20} {
		failed(t, laid(7, 1, 2, 3, make([]byte, size)), api.ErrForm)
		failed(t, make([]byte, size+11), api.ErrSum)
	}
}

func TestDecodeOfWrongMessages(t *testing.T) {
	for _, any := range []byte{0, 1} {
		for _, l := range [][]api.Message{hellos(1), row(9, 0), row(16, 5), {snap(500)}} {
			b := said(t, l...)
			for size := range b {
				failed(t, laid(7, any, 0, 0, b[:size]), api.ErrShort)
			}
			failed(t, laid(7, any, 0, 0, append(bytes.Clone(b), 0)), api.ErrForm)
		}
		// 17 messages; a kind that is none; a bit behind the last field.
		failed(t, laid(7, any, 0, 0, []byte{17 << 3}), api.ErrForm)
		failed(t, laid(7, any, 0, 0, []byte{8, 0}), api.ErrForm)
		failed(t, laid(7, any, 0, 0, []byte{8, 0x81}), api.ErrForm)
		failed(t, laid(7, any, 0, 0, []byte{1}), api.ErrForm)
	}
}

// Bytes of all sorts, most of them with their sum behind, and a third byte that is none too strange.
func TestDecodeOfAnyBytes(t *testing.T) {
	for seed := range 20000 {
		b := mixed(9+seed%40, seed)
		b[2] = byte(seed % 3)
		if seed%5 == 0 {
			clear(b[3:9])
		}
		if len(b) > 10 {
			b[9], b[10] = byte(seed%3)<<3|byte((seed%9+1)>>1), byte(seed%9+1)<<7|b[10]&0x7F
		}
		if seed%7 > 0 {
			b = summed(b)
		}
		_, want := told(b)
		failed(t, b, want)
	}
}

// What is handed in stays, and what is told is new.
func TestDatagramsShareNothing(t *testing.T) {
	held := []byte("abcdefgh")
	l := append(make([]api.Message, 0, 9), api.Message{Kind: api.Snap, Bytes: held[2:5]}, api.Message{Kind: api.Snap, Bytes: held[4:7]})
	b, err := netchan.Encode(netchan.Datagram{List: l})
	if err != api.OK || string(held) != "abcdefgh" || len(l) != 2 || string(l[0].Bytes) != "cde" || l[:3][2].Kind != 0 {
		t.Fatalf("%v %s %+v", err, held, l)
	}
	text := string(b)
	copy(held, "........")
	if string(b) != text {
		t.Error("what was told hangs on what was handed in")
	}
	one, _ := netchan.Decode(b)
	two, _ := netchan.Decode(b)
	clear(b)
	_ = append(one.List[0].Bytes, "xxxx"...)
	one.List[0].Bytes[0] = 'x'
	one.List[1] = api.Message{}
	if len(two.List) != 2 || string(two.List[0].Bytes) != "cde" || string(two.List[1].Bytes) != "efg" || one.List[0].Bytes[1] != 'd' {
		t.Errorf("%+v %+v", one, two)
	}
}
