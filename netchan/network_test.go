package netchan_test

import (
	"bytes"
	"testing"

	"embrasure/api"
	"embrasure/netchan"
)

// drawer draws numbers that hang on its seed alone.
type drawer struct{ n uint32 }

func (d *drawer) below(most int) int {
	d.n = d.n*1664525 + 1013904223
	return int(d.n>>8) % most
}

// network is two channels, each with a model, and what is under way to each of them.
type network struct {
	t      *testing.T
	draw   drawer
	now    uint32
	sides  [2]*pair
	under  [2][][]byte
	pushed [2]int
	came   [2]int
}

func newNetwork(t *testing.T, seed int) *network {
	return &network{t: t, draw: drawer{uint32(seed)*2654435761 + 1}, sides: [2]*pair{newPair(t), newPair(t)}}
}

// push makes the next one of a side's numbered messages wait; every now and then it is one with many bytes, that pushes others out.
func (n *network) push(side int) {
	m := api.Message{Kind: api.Snap, Tick: uint32(n.pushed[side])}
	if n.draw.below(6) == 0 {
		m.Bytes = mixed(n.draw.below(900), n.pushed[side])
	}
	if n.sides[side].push(m) == api.OK {
		n.pushed[side]++
	}
}

// send packs, with some messages that don't wait, and at times with too many of them.
func (n *network) send(side int) {
	count := n.draw.below(5)
	if n.draw.below(8) == 0 {
		count = n.draw.below(19)
	}
	var l []api.Message
	for i := range count {
		l = append(l, bound(i))
	}
	if n.draw.below(10) == 0 {
		l = append(l, api.Message{Kind: api.Move, Cmd: api.Command{Ticks: n.draw.below(10)}})
	}
	if b, err := n.sides[side].pack(n.now, l...); err == api.OK {
		n.under[1-side] = append(n.under[1-side], b)
	}
}

// take hands a side what is under way to it, any one of that, and turns a bit of it at times; it may come again.
func (n *network) take(side int) {
	if len(n.under[side]) == 0 {
		return
	}
	at := n.draw.below(len(n.under[side]))
	b := bytes.Clone(n.under[side][at])
	if n.draw.below(12) == 0 {
		b[n.draw.below(len(b))] ^= 1 << n.draw.below(8)
	}
	n.deliver(side, b)
	if n.draw.below(4) > 0 {
		n.lose(side, at)
	}
}

func (n *network) lose(side, at int) {
	n.under[side] = append(n.under[side][:at], n.under[side][at+1:]...)
}

// deliver holds what waits against what came: each is there, once it waits no more, and none comes ahead of one that was pushed ahead of it.
func (n *network) deliver(side int, b []byte) {
	n.t.Helper()
	l, _ := n.sides[side].unpack(b, n.now)
	for _, m := range l {
		if m.Kind != api.Snap {
			continue
		}
		if int(m.Tick) > n.came[side] {
			n.t.Fatalf("%d came, behind %d of them", m.Tick, n.came[side])
		}
		n.came[side] = max(n.came[side], int(m.Tick)+1)
	}
	if left := n.pushed[side] - n.sides[side].c.Waits(); left > n.came[1-side] {
		n.t.Fatalf("%d wait no more, and %d came", left, n.came[1-side])
	}
}

// step is one thing that happens, to either side.
func (n *network) step() {
	n.now += uint32(n.draw.below(4))
	if n.draw.below(40) == 0 {
		n.now -= min(n.now, uint32(n.draw.below(300)))
	}
	side := n.draw.below(2)
	switch n.draw.below(9) {
	case 0, 1:
		n.push(side)
	case 2, 3, 4:
		n.send(side)
	case 5, 6, 7:
		n.take(side)
	default:
		if count := len(n.under[side]); count > 0 {
			n.lose(side, n.draw.below(count))
		}
	}
}

// settle lets everything that is sent from now on come, at once; within this many datagrams nothing waits any more.
func (n *network) settle() {
	n.t.Helper()
	for range 80 {
		for side := range 2 {
			n.deliver(1-side, n.sides[side].must(n.now))
			n.now++
		}
	}
	for side := range 2 {
		if got := n.sides[side].c.Waits(); got != 0 || n.came[1-side] != n.pushed[side] {
			n.t.Fatalf("%d wait; %d of %d came", got, n.came[1-side], n.pushed[side])
		}
	}
}

// Datagrams come late, twice, turned, or not at all: a channel is as its model, and what waits comes, as soon as datagrams come again.
func TestNetwork(t *testing.T) {
	for seed := range 60 {
		n := newNetwork(t, seed)
		for range 5 {
			for range 200 {
				n.step()
			}
			n.settle()
		}
	}
}

// Nothing comes for longer than datagrams are remembered, either way.
func TestNothingComesForLong(t *testing.T) {
	for _, sides := range [][]int{{0}, {1}, {0, 1}} {
		for _, count := range []int{1, 63, 64, 65, 300} {
			n := newNetwork(t, count)
			n.settle()
			for range count {
				for _, side := range sides {
					n.push(side)
					n.sides[side].must(n.now)
				}
			}
			n.settle()
		}
	}
}

// A channel is as its model, whatever a peer says it took, and whatever number it has.
func TestWildPeer(t *testing.T) {
	for seed := range 60 {
		d := &drawer{uint32(seed)*2654435761 + 7}
		p := newPair(t)
		seq, now := d.below(65536), uint32(0)
		for i := range 600 {
			switch d.below(4) {
			case 0:
				p.push(some(d.below(1000)))
			case 1, 2:
				p.pack(now, row(d.below(18), i)...)
			default:
				seq += d.below(40) - 10
				any := byte(d.below(8))
				last, bits := len(p.m.sent)-d.below(90)+10, d.n^d.n<<13
				if any == 0 && d.below(3) > 0 {
					last, bits = 0, 0
				}
				p.unpack(laid(uint16(seq), min(any, 1), uint16(last), bits, said(t, row(d.below(4), i)...)), now)
			}
			now += uint32(d.below(100)) - uint32(d.below(20))
		}
	}
}

// The same calls have the same answers.
func TestTheSameAgain(t *testing.T) {
	play := func() []byte {
		var all []byte
		p, q := netchan.New(), netchan.New()
		for i := range 300 {
			if err := p.Push(some(i)); err != api.OK && err != api.ErrFull {
				t.Fatal(err)
			}
			b, err := p.Pack(row(i%3, i), uint32(i))
			if err != api.OK {
				t.Fatal(err)
			}
			if i%3 > 0 {
				q.Unpack(b, uint32(i))
			}
			c, err := q.Pack(nil, uint32(i))
			if err != api.OK {
				t.Fatal(err)
			}
			if i%4 > 0 {
				p.Unpack(c, uint32(i+5))
			}
			all = append(append(append(all, b...), c...), byte(p.Waits()), byte(p.RTT()))
		}
		return all
	}
	if !bytes.Equal(play(), play()) {
		t.Error("another answer")
	}
}
