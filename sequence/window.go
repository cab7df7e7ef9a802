package sequence

// reach is how far behind the last one a number may be, and still be remembered.
const reach = 32

// Window accepts numbers; a zero one has accepted none (F2).
type Window struct {
	any  bool
	last uint16
	bits uint32
}

// Accept tells whether n is accepted, and if so, remembers it (F2).
func (w *Window) Accept(n uint16) bool {
	ahead := Dist(n, w.last)
	switch {
	case !w.any:
		w.any = true
		// What a zero window has as its last one was never accepted: out of reach, it is in no bit.
		ahead = reach + 1
		fallthrough
	case ahead > 0:
		w.moveOn(n, ahead)
		return true
	default:
		bit := bitOf(w.last, n)
		fresh := bit&^w.bits != 0
		w.bits |= bit
		return fresh
	}
}

// Any tells whether any number was accepted (F2).
func (w *Window) Any() bool { return w.any }

// Ack is the last one, and a bit for each number behind it that is remembered (F2).
func (w *Window) Ack() (uint16, uint32) { return w.last, w.bits }

// moveOn makes n, that is so far ahead, the last one; the one that was is behind it then.
func (w *Window) moveOn(n uint16, ahead int) {
	w.bits = w.bits<<ahead | uint32(1)<<(ahead-1)
	w.last = n
}
