package message

import "embrasure/api"

// carry is one of a way's methods.
type carry func(n int64, r room) int64

// carried is what a message is behind a way: its kind, and the fields of that kind, in order; the message itself stays.
func carried(m api.Message, w way) api.Message {
	number, sign := w.number, w.sign
	to := api.Message{Kind: field(m.Kind, number, room{bits: 4, least: api.Hello, most: api.Snap})}
	switch to.Kind {
	case api.Move:
		to.Cmd = command(m.Cmd, number, sign)
	case api.Fire:
		to.Prov = field(m.Prov, number, unsigned(16))
		to.Shot = field(m.Shot, number, room{bits: 1, least: api.Rocket, most: api.Grenade})
		to.Dir = vec(m.Dir, sign, room{bits: 18, least: -api.One, most: api.One})
	case api.Moved:
		to.Seq = field(m.Seq, number, unsigned(16))
		to.Pos = vec(m.Pos, sign, signed(32))
		to.Vel = vec(m.Vel, sign, signed(32))
	case api.Bound:
		to.Prov = field(m.Prov, number, unsigned(16))
		fallthrough
	case api.Welcome:
		to.ID = field(m.ID, number, room{bits: 31, least: 1, most: 1<<31 - 1})
	case api.Denied:
		to.Prov = field(m.Prov, number, unsigned(16))
		to.Why = field(m.Why, number, room{bits: 4, least: int64(api.ErrArg), most: int64(api.ErrDead)})
	case api.Snap:
		to.Tick = field(m.Tick, number, unsigned(32))
		to.Base = field(m.Base, number, unsigned(32))
		to.Bytes = load(m.Bytes, number)
	}
	return to
}

func command(c api.Command, number, sign carry) api.Command {
	var to api.Command
	to.Seq = field(c.Seq, number, unsigned(16))
	to.Buttons = field(c.Buttons, number, unsigned(2))
	to.Dx = field(c.Dx, sign, signed(8))
	to.Dy = field(c.Dy, sign, signed(8))
	// Less one, so that MaxTicks has room, and 0, that is not right, has none.
	to.Ticks = field(c.Ticks-1, number, room{bits: 3, most: api.MaxTicks - 1}) + 1
	return to
}

func vec(v api.Vec, sign carry, r room) api.Vec {
	var to api.Vec
	to.X = field(v.X, sign, r)
	to.Y = field(v.Y, sign, r)
	to.Z = field(v.Z, sign, r)
	return to
}

// load is bytes, with how many there are ahead of them.
func load(b []byte, number carry) []byte {
	var to []byte
	for i := range field(len(b), number, unsigned(10)) {
		var x byte
		// A reader tells of bytes that are not there yet.
		if i < len(b) {
			x = b[i]
		}
		to = append(to, field(x, number, unsigned(8)))
	}
	return to
}

// field is one number of a message, of whatever type.
func field[T ~int | ~int8 | ~int64 | ~uint8 | ~uint16 | ~uint32](n T, by carry, r room) T {
	return T(by(int64(n), r))
}
