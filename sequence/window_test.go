package sequence_test

import (
	"testing"

	"embrasure/sequence"
)

// model is a window as the document tells it, of places that do not go round: what went out of reach never comes near again.
type model struct {
	any        bool
	last       int
	remembered map[int]struct{}
}

func (m *model) accept(n uint16) bool {
	place := m.last + far(n, uint16(m.last))
	if !m.any {
		m.any, m.last, m.remembered = true, int(n), map[int]struct{}{int(n): {}}
		return true
	}
	if place > m.last {
		m.last = place
	} else if _, is := m.remembered[place]; is || place < m.last-32 {
		return false
	}
	m.remembered[place] = struct{}{}
	for old := range m.remembered {
		if old < m.last-32 {
			delete(m.remembered, old)
		}
	}
	return true
}

func (m *model) ack() (uint16, uint32) {
	var bits uint32
	for i := range 32 {
		if _, is := m.remembered[m.last-i-1]; is {
			bits += 1 << i
		}
	}
	return uint16(m.last), bits
}

// pair is a window, and a model that is asked the same.
type pair struct {
	w sequence.Window
	m model
}

// accept asks both for n, and holds all against each other that the window tells.
func (p *pair) accept(t *testing.T, n uint16) bool {
	t.Helper()
	was := p.m.last
	got, want := p.w.Accept(n), p.m.accept(n)
	if got != want {
		t.Fatalf("%d with the last one %d: %v, not %v", n, uint16(was), got, want)
	}
	p.same(t)
	return got
}

// same asks twice, since asking must change nothing.
func (p *pair) same(t *testing.T) {
	t.Helper()
	wantLast, wantBits := p.m.ack()
	for range 2 {
		if p.w.Any() != p.m.any {
			t.Fatalf("Any: %v", p.w.Any())
		}
		if last, bits := p.w.Ack(); last != wantLast || bits != wantBits {
			t.Fatalf("Ack: %d %08X, not %d %08X", last, bits, wantLast, wantBits)
		}
	}
}

// step is one Accept, and what Ack tells behind it.
type step struct {
	n    uint16
	want bool
	last uint16
	bits uint32
}

func walk(t *testing.T, steps ...step) {
	t.Helper()
	w := &sequence.Window{}
	for i, x := range steps {
		if got := w.Accept(x.n); got != x.want {
			t.Errorf("step %d: %d: %v", i, x.n, got)
		}
		if last, bits := w.Ack(); last != x.last || bits != x.bits {
			t.Errorf("step %d: %d: Ack %d %08X, not %d %08X", i, x.n, last, bits, x.last, x.bits)
		}
		if !w.Any() {
			t.Errorf("step %d: %d: not any", i, x.n)
		}
	}
}

func TestExample(t *testing.T) {
	walk(t, step{65535, true, 65535, 0}, step{0, true, 0, 1}, step{65535, false, 0, 1})
}

func TestAccept(t *testing.T) {
	// In order, and each twice.
	walk(t, step{7, true, 7, 0}, step{7, false, 7, 0}, step{8, true, 8, 1}, step{8, false, 8, 1}, step{7, false, 8, 1}, step{9, true, 9, 3}, step{10, true, 10, 7})
	// Late ones.
	walk(t, step{10, true, 10, 0}, step{14, true, 14, 8}, step{12, true, 14, 10}, step{13, true, 14, 11}, step{11, true, 14, 15}, step{12, false, 14, 15}, step{10, false, 14, 15}, step{9, true, 14, 31})
	// 1, 32 and 33 behind.
	walk(t, step{100, true, 100, 0}, step{67, false, 100, 0}, step{68, true, 100, 1 << 31}, step{99, true, 100, 1<<31 | 1}, step{68, false, 100, 1<<31 | 1}, step{99, false, 100, 1<<31 | 1}, step{66, false, 100, 1<<31 | 1})
	// Those are behind as numbers go round.
	walk(t, step{0, true, 0, 0}, step{65503, false, 0, 0}, step{65504, true, 0, 1 << 31}, step{65535, true, 0, 1<<31 | 1}, step{1, true, 1, 3})
	// Half round: 32767 ahead is newer, 32768 is neither newer nor near.
	walk(t, step{0, true, 0, 0}, step{32768, false, 0, 0}, step{32769, false, 0, 0}, step{32767, true, 32767, 0}, step{65535, false, 32767, 0}, step{65534, true, 65534, 0})
}

func TestTheLastOneMovesOn(t *testing.T) {
	walk(t, step{10, true, 10, 0}, step{41, true, 41, 1 << 30}, step{42, true, 42, 1<<31 | 1}, step{43, true, 43, 3})
	walk(t, step{10, true, 10, 0}, step{42, true, 42, 1 << 31}, step{10, false, 42, 1 << 31})
	walk(t, step{10, true, 10, 0}, step{43, true, 43, 0}, step{10, false, 43, 0}, step{11, true, 43, 1 << 31})
	walk(t, step{10, true, 10, 0}, step{44, true, 44, 0}, step{11, false, 44, 0})
	walk(t, step{10, true, 10, 0}, step{9, true, 10, 1}, step{41, true, 41, 3 << 30}, step{42, true, 42, 1<<31 | 1}, step{74, true, 74, 1 << 31}, step{107, true, 107, 0})
	walk(t, step{65530, true, 65530, 0}, step{26, true, 26, 1 << 31}, step{65530, false, 26, 1 << 31}, step{27, true, 27, 1}, step{65530, false, 27, 1})
}

func TestNoneAccepted(t *testing.T) {
	w := &sequence.Window{}
	for range 2 {
		if last, bits := w.Ack(); w.Any() || last != 0 || bits != 0 {
			t.Errorf("%v %d %08X", w.Any(), last, bits)
		}
	}
}

// Whatever the first one is, it is accepted, and nothing stands behind it.
func TestFirst(t *testing.T) {
	for n := range round {
		p := &pair{}
		p.same(t)
		if !p.accept(t, uint16(n)) || p.accept(t, uint16(n)) {
			t.Fatalf("%d as the first one", n)
		}
		if last, bits := p.w.Ack(); last != uint16(n) || bits != 0 {
			t.Fatalf("%d as the first one: Ack %d %08X", n, last, bits)
		}
	}
}

// Each number there is, behind one alone, and behind one with all its 32.
func TestSecond(t *testing.T) {
	for _, first := range edges {
		var one, full pair
		one.accept(t, first)
		for i := range 33 {
			full.accept(t, first-uint16(i))
		}
		for n := range round {
			w, x := one.w, full.w
			ahead := far(uint16(n), first)
			if got := w.Accept(uint16(n)); got != (ahead > 0 || ahead < 0 && ahead >= -32) {
				t.Fatalf("%d behind the first one, %d: %v", n, first, got)
			}
			if got := x.Accept(uint16(n)); got != (ahead > 0) {
				t.Fatalf("%d with the last one %d, and all behind it: %v", n, first, got)
			}
			wantLast := first
			if ahead > 0 {
				wantLast = uint16(n)
			}
			var wantBits uint32
			for behind := max(ahead, 1); behind <= 32; behind++ {
				wantBits += 1 << (behind - 1)
			}
			if last, bits := x.Ack(); last != wantLast || bits != wantBits {
				t.Fatalf("%d with the last one %d, and all behind it: Ack %d %08X, not %d %08X", n, first, last, bits, wantLast, wantBits)
			}
		}
	}
}

// One number at each place behind, and the last one moved on so far, up to half round from it: it is not accepted again, be it remembered or out of reach.
func TestRemembered(t *testing.T) {
	for _, first := range edges {
		for behind := 1; behind <= 33; behind++ {
			for _, on := range []int{1, 2, 15, 16, 30, 31, 32, 33, 34, 63, 64, 65, 255, 256, 16384, 32734, 32735} {
				p := &pair{}
				p.accept(t, first)
				old := first - uint16(behind)
				if p.accept(t, old) != (behind <= 32) {
					t.Fatalf("%d behind %d", behind, first)
				}
				p.accept(t, first+uint16(on))
				if behind <= 32 && p.accept(t, old) || p.accept(t, first) {
					t.Fatalf("%d behind %d, moved on by %d: accepted twice", behind, first, on)
				}
				for i := range 40 {
					p.accept(t, first+uint16(on)-uint16(i))
				}
			}
		}
	}
}

// What was out of reach once is forgotten: as numbers go round, and it is near again, it is accepted.
func TestForgotten(t *testing.T) {
	for _, first := range edges {
		for behind := range 33 {
			p := &pair{}
			p.accept(t, first)
			old := first - uint16(behind)
			p.accept(t, old)
			for _, n := range []uint16{first + 20000, first + 40000, first + 60000, first + 1} {
				if !p.accept(t, n) {
					t.Fatalf("%d, on the way round from %d", n, first)
				}
			}
			if want := behind < 32; p.accept(t, old) != want || p.accept(t, old) {
				t.Fatalf("%d behind %d, once round", behind, first)
			}
		}
	}
}

// moved is numbers of the sort that comes in: mostly a little ahead or behind, at times far; another row for each seed.
func moved(size, seed int) []uint16 {
	l := make([]uint16, size)
	n := uint32(seed)*2654435761 + 1
	draw := func(below uint32) uint16 {
		n = n*1664525 + 1013904223
		return uint16((n >> 8) % below)
	}
	at := draw(round)
	for i := range l {
		switch draw(16) {
		case 0:
			at += 28 + draw(8)
		case 1:
			at += draw(100)
		case 2:
			if draw(10) == 0 {
				at += draw(round)
			}
		case 3, 4, 5, 6:
			at++
		}
		l[i] = at - draw(36)
	}
	return l
}

func TestManyNumbers(t *testing.T) {
	for seed := range 60 {
		p := &pair{}
		for _, n := range moved(3000, seed) {
			p.accept(t, n)
		}
	}
}

// An Ack of a window tells of just those that are remembered, and of the last one.
func TestAckedOfAWindow(t *testing.T) {
	p := &pair{}
	for _, n := range moved(2000, 99) {
		p.accept(t, n)
		last, bits := p.w.Ack()
		for d := -40; d <= 40; d++ {
			_, want := p.m.remembered[p.m.last+d]
			if got := sequence.Acked(last, bits, last+uint16(d)); got != want {
				t.Fatalf("%d, with the last one %d: %v", last+uint16(d), last, got)
			}
		}
	}
}

// What follows: as long as the last one has not gone half round, none is accepted twice, however often and late it comes.
func TestOnce(t *testing.T) {
	for _, first := range edges {
		var w sequence.Window
		times := map[uint16]int{}
		take := func(n uint16) {
			if w.Accept(n) {
				times[n]++
			}
		}
		take(first)
		for at := 1; at < 32768; at += 1 + at%37 {
			take(first + uint16(at))
			for _, back := range []int{0, 1, 2, 5, 31, 32, 33, 34, 100, 1000, 30000} {
				if back <= at {
					take(first + uint16(at-back))
				}
			}
		}
		for at := range 32768 {
			take(first + uint16(at))
		}
		for n, k := range times {
			if k > 1 {
				t.Fatalf("%d, %d on from the first one: accepted %d times", n, n-first, k)
			}
		}
	}
}

func TestTwoWindows(t *testing.T) {
	one, two := &pair{}, &pair{}
	l, k := moved(1000, 7), moved(1000, 8)
	for i := range l {
		one.accept(t, l[i])
		two.same(t)
		two.accept(t, k[i])
		one.same(t)
	}
}
