package netchan

import (
	"embrasure/api"
	"embrasure/crc"
	"embrasure/message"
)

const (
	// head is how many bytes are ahead of the messages: those of the number, of whether it acknowledges, of the last one, and of the bits.
	head = 2 + 1 + 2 + 4
	// tail is how many bytes are behind them: those of the sum.
	tail = 2
)

// Datagram is messages, with a number, and what of the peer's numbers it acknowledges (H1).
type Datagram struct {
	Seq  uint16
	Any  bool
	Last uint16
	Bits uint32
	List []api.Message
}

// Encode is the bytes of a datagram (H1).
func Encode(d Datagram) ([]byte, api.Errno) {
	if !sound(d) {
		return nil, api.ErrArg
	}
	said, err := message.Encode(d.List)
	if err != api.OK {
		return nil, err
	}
	size := head + len(said) + tail
	if size > api.MaxBytes {
		return nil, api.ErrFull
	}
	b := make([]byte, 0, size)
	b = put(b, uint32(d.Seq), 2)
	b = put(b, whether(d.Any), 1)
	b = put(b, uint32(d.Last), 2)
	b = put(b, d.Bits, 4)
	b = append(b, said...)
	return put(b, uint32(crc.Sum(b)), tail), api.OK
}

// Decode is the datagram whose bytes b is (H1).
func Decode(b []byte) (Datagram, api.Errno) {
	if len(b) < head+tail {
		return Datagram{}, api.ErrShort
	}
	end := len(b) - tail
	if number(b[end:]) != uint32(crc.Sum(b[:end])) {
		return Datagram{}, api.ErrSum
	}
	d := Datagram{Seq: uint16(number(b[:2])), Any: b[2] == 1, Last: uint16(number(b[3:5])), Bits: number(b[5:head])}
	if len(b) > api.MaxBytes || b[2] > 1 || !sound(d) {
		return Datagram{}, api.ErrForm
	}
	l, err := message.Decode(b[head:end])
	if err != api.OK {
		return Datagram{}, err
	}
	d.List = l
	return d, api.OK
}

// sound tells whether a datagram that acknowledges nothing tells of no numbers.
func sound(d Datagram) bool { return d.Any || d.Last == 0 && d.Bits == 0 }

func whether(is bool) uint32 {
	if is {
		return 1
	}
	return 0
}

// put is bytes with a number of so many bytes behind them, its highest one first.
func put(b []byte, n uint32, size int) []byte {
	for i := size - 1; i >= 0; i-- {
		b = append(b, byte(n>>(8*i)))
	}
	return b
}

// number is what put has put there.
func number(b []byte) uint32 {
	var n uint32
	for _, x := range b {
		n = n<<8 | uint32(x)
	}
	return n
}
