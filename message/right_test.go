package message_test

import (
	"math"
	"testing"

	"embrasure/api"
	"embrasure/message"
)

// right asks Right of a message, and whether Encode has the same mind.
func right(t *testing.T, m api.Message, want bool) {
	t.Helper()
	if got := message.Right(m); got != want {
		t.Errorf("%+v: %v", m, got)
	}
	b, err := message.Encode([]api.Message{m})
	if (err == api.ErrArg) == want {
		t.Errorf("%+v: %v", m, err)
	}
	if err != api.OK && len(b) != 0 {
		t.Errorf("%+v: %v, and bytes beside it", m, err)
	}
}

func TestRightOfEachKind(t *testing.T) {
	for _, m := range []api.Message{
		{Kind: api.Hello},
		{Kind: api.Bye},
		{Kind: api.Move, Cmd: api.Command{Ticks: 1}},
		{Kind: api.Move, Cmd: api.Command{Seq: 7, Buttons: api.Jump | api.Slide, Dx: -100, Dy: 100, Ticks: 4}},
		{Kind: api.Fire},
		{Kind: api.Fire, Prov: 9, Shot: api.Grenade, Dir: api.Vec{X: -api.One, Y: 1, Z: api.One}},
		{Kind: api.Welcome, ID: 1},
		{Kind: api.Moved},
		{Kind: api.Moved, Seq: 1, Pos: api.Vec{X: 5, Y: -6, Z: 7}, Vel: api.Vec{X: -8, Y: 9, Z: -10}},
		{Kind: api.Bound, ID: 1},
		{Kind: api.Bound, Prov: 65535, ID: 1<<31 - 1},
		{Kind: api.Denied, Why: api.ErrWait},
		{Kind: api.Denied, Prov: 1, Why: api.ErrAmmo},
		{Kind: api.Snap},
		{Kind: api.Snap, Tick: 2, Base: 1, Bytes: []byte{0}},
	} {
		right(t, m, true)
	}
	for _, l := range rows() {
		for _, m := range l {
			right(t, m, true)
		}
	}
}

func TestNoKind(t *testing.T) {
	for _, kind := range []int{math.MinInt, -16, -15, -9, -1, 0, 10, 11, 15, 16, 17, 25, 32, 33, 256 + 1, 1<<32 + 1, 1<<62 + 1, math.MaxInt} {
		right(t, api.Message{Kind: kind}, false)
		for like := 1; like <= 9; like++ {
			m := plain(like, 0)
			m.Kind = kind
			right(t, m, false)
		}
	}
}

// fits tells whether a number can stand in a field at all, be it right or not.
func fits(name string, n int64) bool {
	var m api.Message
	if name == "Bytes" && (n < 0 || n > 5000) {
		return false
	}
	set(&m, name, n)
	return get(m, name) == n
}

// Each field at both its ends, one beside them on either side, and numbers that would be right if their higher bits were cut off.
func TestFieldsAtTheirEnds(t *testing.T) {
	for kind := 1; kind <= 9; kind++ {
		for _, p := range parts(kind) {
			wide := int64(1) << p.bits
			for _, n := range []int64{
				p.least - 1, p.least, p.least + 1, p.most - 1, p.most, p.most + 1, -1, 0, 1,
				p.least + wide, p.least - wide, p.most + wide, p.most - wide, p.least + 1<<32, p.most - 1<<32, p.least + 1<<62, p.most - 1<<62,
				math.MinInt32, math.MaxInt32, math.MinInt64, math.MinInt64 + 1, math.MaxInt64 - 1, math.MaxInt64,
			} {
				if !fits(p.name, n) {
					continue
				}
				for turn := range 3 {
					m := plain(kind, turn)
					set(&m, p.name, n)
					right(t, m, p.least <= n && n <= p.most)
				}
			}
		}
	}
}

// Wherever there are few numbers, all of them.
func TestFieldsOfFewNumbers(t *testing.T) {
	for n := range 256 {
		right(t, api.Message{Kind: api.Move, Cmd: api.Command{Buttons: uint8(n), Ticks: 1}}, n <= 3)
		right(t, api.Message{Kind: api.Move, Cmd: api.Command{Dx: int8(n), Dy: int8(-n), Ticks: 8}}, true)
	}
	for n := -300; n <= 300; n++ {
		right(t, api.Message{Kind: api.Move, Cmd: api.Command{Ticks: n}}, n >= 1 && n <= 8)
		right(t, api.Message{Kind: api.Fire, Shot: n}, n == 0 || n == 1)
		right(t, api.Message{Kind: api.Denied, Why: api.Errno(n)}, n >= 1 && n <= 10)
		right(t, api.Message{Kind: api.Welcome, ID: n}, n >= 1)
		right(t, api.Message{Kind: n}, n == api.Hello || n == api.Bye || n == api.Fire || n == api.Moved || n == api.Snap)
	}
}

func TestHowManyBytes(t *testing.T) {
	for size := range 1100 {
		if got := message.Right(api.Message{Kind: api.Snap, Bytes: mixed(size, 1)}); got != (size <= 1023) {
			t.Errorf("%d bytes: %v", size, got)
		}
	}
	for _, size := range []int{2047, 2048, 2049, 1 << 16, 1<<16 + 1, 1 << 20} {
		right(t, api.Message{Kind: api.Snap, Bytes: make([]byte, size)}, false)
	}
}

// A field that a kind does not have must be nought there, whatever it may be elsewhere.
func TestFieldsOfOtherKinds(t *testing.T) {
	for kind := 1; kind <= 9; kind++ {
		has := map[string]int{}
		for _, p := range parts(kind) {
			has[p.name] = 1
		}
		for _, name := range names() {
			if has[name] == 1 {
				continue
			}
			for _, n := range []int64{1, 2, -2, 255, -128, 1 << 15, 1 << 31, -1 << 31, 1 << 32, 1 << 62, math.MinInt64, math.MaxInt64} {
				if !fits(name, n) {
					continue
				}
				m := plain(kind, 0)
				set(&m, name, n)
				right(t, m, false)
			}
		}
	}
	// Bytes that are there and empty are none.
	for kind := 1; kind <= 9; kind++ {
		m := plain(kind, 0)
		m.Bytes = []byte{}
		right(t, m, true)
		m.Bytes = make([]byte, 0, 10)
		right(t, m, true)
	}
	// One tick is not none, where there is no command.
	right(t, api.Message{Kind: api.Hello, Cmd: api.Command{Ticks: 1}}, false)
	right(t, api.Message{Kind: api.Bye, Bytes: []byte{0}}, false)
}

func TestRightLeavesWhatItIsHanded(t *testing.T) {
	b := []byte("abcdef")
	m := api.Message{Kind: api.Snap, Tick: 1, Base: 2, Bytes: b[1:3]}
	if !message.Right(m) || string(b) != "abcdef" || string(m.Bytes) != "bc" || m.Tick != 1 || m.Base != 2 || m.Kind != api.Snap {
		t.Errorf("%+v %s", m, b)
	}
	m.Kind = api.Bye
	if message.Right(m) || string(b) != "abcdef" || string(m.Bytes) != "bc" {
		t.Errorf("%+v %s", m, b)
	}
}
