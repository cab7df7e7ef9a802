package netchan_test

import (
	"bytes"
	"testing"

	"embrasure/api"
	"embrasure/message"
	"embrasure/netchan"
	"embrasure/sequence"
)

// slow is the sum of bytes as the document of sums tells it, bit by bit.
func slow(b []byte) uint16 {
	sum := uint16(0xFFFF)
	for _, x := range b {
		sum ^= 256 * uint16(x)
		for range 8 {
			high := sum&0x8000 != 0
			sum *= 2
			if high {
				sum ^= 0x1021
			}
		}
	}
	return sum
}

// summed is bytes with their sum behind.
func summed(b []byte) []byte {
	sum := slow(b)
	return append(bytes.Clone(b), byte(sum>>8), byte(sum))
}

// ahead is the nine bytes that are ahead of the messages.
func ahead(seq uint16, any byte, last uint16, bits uint32) []byte {
	return []byte{
		byte(seq >> 8), byte(seq), any, byte(last >> 8), byte(last),
		byte(bits >> 24), byte(bits >> 16), byte(bits >> 8), byte(bits),
	}
}

// laid is the bytes of a datagram, be it one that Encode has or not, with whatever bytes for its messages.
func laid(seq uint16, any byte, last uint16, bits uint32, said []byte) []byte {
	return summed(append(ahead(seq, any, last, bits), said...))
}

// said is the bytes of messages alone.
func said(t *testing.T, l ...api.Message) []byte {
	t.Helper()
	b, err := message.Encode(l)
	if err != api.OK {
		t.Fatalf("%+v: %v", l, err)
	}
	return b
}

// mixed is so many bytes of all sorts, another row for each seed.
func mixed(size, seed int) []byte {
	b := make([]byte, size)
	n := uint32(seed)*2654435761 + 1
	for i := range b {
		n = n*1664525 + 1013904223
		b[i] = byte(n >> 24)
	}
	return b
}

func snap(size int) api.Message {
	return api.Message{Kind: api.Snap, Tick: 0xA5A5A5A5, Base: 0x0F0F0F0F, Bytes: mixed(size, size)}
}

// bound is a message that can be told from others by its number.
func bound(n int) api.Message {
	return api.Message{Kind: api.Bound, Prov: uint16(n), ID: n + 1}
}

// some is a message that is right, of any kind, another one for each n.
func some(n int) api.Message {
	switch n % 9 {
	case 0:
		return api.Message{Kind: api.Hello}
	case 1:
		return api.Message{Kind: api.Move, Cmd: api.Command{Seq: uint16(n), Buttons: uint8(n % 4), Dx: int8(n), Dy: int8(-n), Ticks: n%8 + 1}}
	case 2:
		return api.Message{Kind: api.Fire, Prov: uint16(n), Shot: n / 9 % 2, Dir: api.Vec{X: int64(n % 65536), Y: -int64(n % 65536), Z: 1}}
	case 3:
		return api.Message{Kind: api.Bye}
	case 4:
		return api.Message{Kind: api.Welcome, ID: n + 1}
	case 5:
		return api.Message{Kind: api.Moved, Seq: uint16(n), Pos: api.Vec{X: int64(n), Y: -int64(n)}, Vel: api.Vec{Z: int64(n)}}
	case 6:
		return bound(n)
	case 7:
		return api.Message{Kind: api.Denied, Prov: uint16(n), Why: api.Errno(n%10 + 1)}
	}
	return api.Message{Kind: api.Snap, Tick: uint32(n), Base: uint32(n / 2), Bytes: mixed(n%60, n)}
}

func row(count, from int) []api.Message {
	var l []api.Message
	for i := range count {
		l = append(l, some(from+i))
	}
	return l
}

func hellos(count int) []api.Message {
	l := make([]api.Message, count)
	for i := range l {
		l[i].Kind = api.Hello
	}
	return l
}

// same holds messages against each other; Bytes that are nil and that are empty are the same.
func same(a, b []api.Message) bool {
	if len(a) != len(b) {
		return false
	}
	for i := range a {
		if !alike(a[i], b[i]) {
			return false
		}
	}
	return true
}

func alike(a, b api.Message) bool {
	return a.Kind == b.Kind && a.Seq == b.Seq && a.Cmd == b.Cmd && a.Prov == b.Prov && a.ID == b.ID &&
		a.Shot == b.Shot && a.Dir == b.Dir && a.Why == b.Why && a.Pos == b.Pos && a.Vel == b.Vel &&
		a.Tick == b.Tick && a.Base == b.Base && string(a.Bytes) == string(b.Bytes)
}

// was is a datagram that a model has sent: of those that wait it keeps each one.
type was struct {
	seq       uint16
	at        uint32
	has       map[int]struct{}
	forgotten bool
}

// model is a channel as the document tells it. It keeps all that was ever sent, and all that was ever pushed.
type model struct {
	window  sequence.Window
	heard   uint32
	pushed  []api.Message
	waits   []int
	sent    []was
	rtt     int
	samples int
}

func (m *model) push(x api.Message) api.Errno {
	if !message.Right(x) {
		return api.ErrArg
	}
	if len(m.waits) == 64 {
		return api.ErrFull
	}
	x.Bytes = bytes.Clone(x.Bytes)
	m.waits = append(m.waits, len(m.pushed))
	m.pushed = append(m.pushed, x)
	return api.OK
}

// pack goes up from the messages alone, one more of those that wait at a time, until one does not fit.
func (m *model) pack(l []api.Message, now uint32) ([]byte, api.Errno) {
	d := netchan.Datagram{Seq: uint16(len(m.sent)), Any: m.window.Any(), List: append([]api.Message(nil), l...)}
	d.Last, d.Bits = m.window.Ack()
	b, err := netchan.Encode(d)
	if err != api.OK {
		return nil, err
	}
	x := was{seq: d.Seq, at: now, has: map[int]struct{}{}}
	for _, n := range m.waits {
		d.List = append(d.List, m.pushed[n])
		more, err := netchan.Encode(d)
		if err != api.OK {
			break
		}
		b = more
		x.has[n] = struct{}{}
	}
	m.sent = append(m.sent, x)
	return b, api.OK
}

func (m *model) unpack(b []byte, now uint32) ([]api.Message, api.Errno) {
	d, err := netchan.Decode(b)
	if err != api.OK {
		return nil, err
	}
	if !m.window.Accept(d.Seq) {
		return nil, api.ErrOld
	}
	m.heard = now
	for i := max(len(m.sent)-64, 0); i < len(m.sent) && d.Any; i++ {
		if x := &m.sent[i]; !x.forgotten && sequence.Acked(d.Last, d.Bits, x.seq) {
			x.forgotten = true
			m.came(*x, now)
		}
	}
	return d.List, api.OK
}

func (m *model) came(x was, now uint32) {
	var left []int
	for _, n := range m.waits {
		if _, is := x.has[n]; !is {
			left = append(left, n)
		}
	}
	m.waits = left
	sample := min(max(int64(now)-int64(x.at), 0), 1000)
	if m.samples++; m.samples == 1 {
		m.rtt = int(sample)
		return
	}
	m.rtt = (7*m.rtt + int(sample) + 4) / 8
}

// pair is a channel, and a model that is asked the same.
type pair struct {
	t *testing.T
	c *netchan.Chan
	m model
}

func newPair(t *testing.T) *pair {
	p := &pair{t: t, c: netchan.New()}
	p.same()
	return p
}

// same asks twice, since asking must change nothing.
func (p *pair) same() {
	p.t.Helper()
	for range 2 {
		if got := p.c.Waits(); got != len(p.m.waits) {
			p.t.Fatalf("%d wait, not %d", got, len(p.m.waits))
		}
		if got := p.c.RTT(); got != p.m.rtt {
			p.t.Fatalf("RTT %d, not %d", got, p.m.rtt)
		}
		if at, is := p.c.Heard(); at != p.m.heard || is != p.m.window.Any() {
			p.t.Fatalf("heard %d %v, not %d %v", at, is, p.m.heard, p.m.window.Any())
		}
	}
}

func (p *pair) push(x api.Message) api.Errno {
	p.t.Helper()
	got, want := p.c.Push(x), p.m.push(x)
	if got != want {
		p.t.Fatalf("Push of %+v: %v, not %v", x, got, want)
	}
	p.same()
	return got
}

func (p *pair) pack(now uint32, l ...api.Message) ([]byte, api.Errno) {
	p.t.Helper()
	got, err := p.c.Pack(l, now)
	want, wrong := p.m.pack(l, now)
	if err != wrong || !bytes.Equal(got, want) {
		p.t.Fatalf("Pack of %d messages: %x %v, not %x %v", len(l), got, err, want, wrong)
	}
	p.same()
	return got, err
}

func (p *pair) unpack(b []byte, now uint32) ([]api.Message, api.Errno) {
	p.t.Helper()
	text := string(b)
	got, err := p.c.Unpack(b, now)
	want, wrong := p.m.unpack(b, now)
	if err != wrong || !same(got, want) || string(b) != text {
		p.t.Fatalf("Unpack of %x: %+v %v, not %+v %v", text, got, err, want, wrong)
	}
	p.same()
	return got, err
}

// must packs what has to be packed.
func (p *pair) must(now uint32, l ...api.Message) []byte {
	p.t.Helper()
	b, err := p.pack(now, l...)
	if err != api.OK {
		p.t.Fatalf("Pack: %v", err)
	}
	return b
}

// acked takes a datagram of a peer that has this number, and acknowledges these.
func (p *pair) acked(seq, last uint16, bits uint32, now uint32) {
	p.t.Helper()
	if _, err := p.unpack(laid(seq, 1, last, bits, []byte{0}), now); err != api.OK {
		p.t.Fatalf("%d, that acknowledges %d %08X: %v", seq, last, bits, err)
	}
}

// list is the messages of a datagram.
func list(t *testing.T, b []byte) []api.Message {
	t.Helper()
	d, err := netchan.Decode(b)
	if err != api.OK {
		t.Fatalf("%x: %v", b, err)
	}
	return d.List
}
