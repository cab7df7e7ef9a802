package message

import (
	"embrasure/api"
	"embrasure/bits"
)

// room is how a number is told: by so many bits; and from where to where it may be.
type room struct {
	bits        int
	least, most int64
}

// unsigned is the room that has all numbers of so many bits; signed likewise, of two's complement.
func unsigned(bits int) room { return room{bits: bits, most: 1<<bits - 1} }
func signed(bits int) room   { return room{bits: bits, least: -1 << (bits - 1), most: 1<<(bits-1) - 1} }

func (r room) has(n int64) bool { return r.least <= n && n <= r.most }

// way is where the numbers of messages go: each is handed the number that is there ahead of it, and tells the one behind it.
type way interface {
	number(n int64, r room) int64
	sign(n int64, r room) int64
}

// checker goes nowhere: it asks whether each number has room.
type checker struct{ wrong bool }

func (c *checker) number(n int64, r room) int64 {
	if !r.has(n) {
		c.wrong = true
		// None, so that of too many bytes not one is gone through.
		return 0
	}
	return n
}

func (c *checker) sign(n int64, r room) int64 { return c.number(n, r) }

// writer goes into bits; what has no room must not be handed to it.
type writer struct{ bits bits.Writer }

func (w *writer) number(n int64, r room) int64 {
	w.bits.Put(uint64(n), r.bits)
	return n
}

func (w *writer) sign(n int64, r room) int64 {
	w.bits.Sign(n, r.bits)
	return n
}

// reader goes out of bits, until one is lacking or wrong: that tells, and all behind it is 0.
type reader struct {
	bits *bits.Reader
	err  api.Errno
}

func (r *reader) number(_ int64, has room) int64 {
	if r.err != api.OK {
		return 0
	}
	n, is := r.bits.Get(has.bits)
	return r.took(int64(n), is, has)
}

func (r *reader) sign(_ int64, has room) int64 {
	if r.err != api.OK {
		return 0
	}
	n, is := r.bits.Sign(has.bits)
	return r.took(n, is, has)
}

func (r *reader) took(n int64, is bool, has room) int64 {
	switch {
	case !is:
		r.err = api.ErrShort
	case !has.has(n):
		r.err = api.ErrForm
	default:
		return n
	}
	return 0
}
