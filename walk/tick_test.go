package walk_test

import (
	"math"
	"testing"

	"embrasure/api"
	"embrasure/plan"
	"embrasure/walk"
)

const (
	most  = math.MaxInt64
	least = math.MinInt64
	one   = api.One
	half  = api.One / 2
)

// place is a vector by its axes.
type place = plan.Place

// reach is how far a player's box reaches from its place, along each axis and both ways.
var reach = place{api.Wide, api.Wide, api.Tall}

// middle is that of a map of 4 cells each way, which has nothing near.
var middle = place{2 * one, 2 * one, 2 * one}

func open() api.Map { return plan.Open(4, 4, 4) }

// somebody is a player whose other fields all are something, so that it shows if one does not stay.
func somebody(at, vel place, ground bool) api.Player {
	return api.Player{ID: 7, Pos: at.Vec(), Vel: vel.Vec(), Ground: ground, Health: 33, Armour: -4, Score: 5, Ammo: [2]int{1, 2}, Wait: 3, Dead: 0}
}

// expect is a tick of somebody: how fast it is then, along which axes it went, and if it is on the ground.
func expect(t *testing.T, m api.Map, p api.Player, c api.Command, vel place, went place, ground bool) {
	t.Helper()
	want := p
	want.Vel, want.Ground = vel.Vec(), ground
	at := plan.At(p.Pos)
	for axis, n := range went {
		at[axis] += n
	}
	want.Pos = at.Vec()
	for range 2 {
		if got := walk.Tick(m, p, c); got != want {
			t.Errorf("%+v, of\n%+v:\n%+v is not\n%+v", c, p, got, want)
		}
	}
}

// towards is a command that goes along an axis.
func towards(axis int, d int8, buttons uint8) api.Command {
	if axis == 0 {
		return api.Command{Dx: d, Buttons: buttons}
	}
	return api.Command{Dy: d, Buttons: buttons}
}

func TestExampleOfTheChapter(t *testing.T) {
	p := somebody(middle.With(2, api.Tall), place{}, true)
	if q := walk.Tick(open(), p, api.Command{Dx: 127}); q.Vel.X != api.Speed/4 || !q.Ground {
		t.Errorf("%+v", q)
	}
}

func TestWants(t *testing.T) {
	m := open()
	for axis := range 2 {
		for _, x := range []struct {
			d           int8
			was         int64
			ground, air int64
		}{
			{127, 0, 4096, 1024}, {1, 0, 32, 8}, {2, 0, 64, 16}, {126, 0, 4063, 1015},
			// Rounded down, one of these would want 130, and the next ones would have one more of their shares.
			{-1, 0, -32, -8}, {-1, 3, -30, -5}, {-1, 15, -21, 6}, {-2, 1, -63, -15}, {-126, 1, -4062, -1014},
			{-127, 0, -4096, -1024}, {-128, 0, -4128, -1032},
			{0, 0, 0, 0}, {0, 3, 3, 3}, {0, 4, 3, 4}, {0, 7, 6, 7}, {0, 8, 6, 8}, {0, 15, 12, 15}, {0, 16, 12, 15}, {0, 31, 24, 30}, {0, 32, 24, 30},
			{0, -3, -3, -3}, {0, -4, -3, -4}, {0, -7, -6, -7}, {0, -8, -6, -8}, {0, -15, -12, -15}, {0, -16, -12, -15}, {0, -31, -24, -30}, {0, -32, -24, -30},
			{127, 16384, 16384, 16384}, {127, 16381, 16381, 16381}, {127, 16380, 16381, 16380}, {127, 16387, 16387, 16387}, {127, 16388, 16387, 16388},
			{-127, -16384, -16384, -16384}, {-127, 16384, 8192, 14336}, {127, -16384, -8192, -14336}, {-128, -16513, -16513, -16513},
			{-128, api.Most, 20448, 29688}, {127, api.Most, 28672, 31744}, {0, api.Most, 24576, 30720}, {127, -api.Most, -20480, -29696}, {0, -api.Most, -24576, -30720},
		} {
			low, high := middle.With(2, api.Tall), middle
			vel := place{}.With(axis, x.was)
			quick, slow := place{}.With(axis, x.ground), place{}.With(axis, x.air)
			falling := slow.With(2, -api.Gravity)
			plain, slides := towards(axis, x.d, 0), towards(axis, x.d, api.Slide)
			expect(t, m, somebody(low, vel, true), plain, quick, quick, true)
			expect(t, m, somebody(low, vel, true), slides, slow, slow, true)
			expect(t, m, somebody(high, vel, false), plain, falling, falling, false)
			expect(t, m, somebody(high, vel, false), slides, falling, falling, false)
			// It is what it was told to be: on the ground, though it is not, has the share of that, and the other way round.
			expect(t, m, somebody(high, vel, true), plain, quick.With(2, -api.Gravity), quick.With(2, -api.Gravity), false)
			expect(t, m, somebody(low, vel, false), plain, slow, slow, true)
		}
	}
}

// Both ways are gone at once, each of them for itself.
func TestWantsBoth(t *testing.T) {
	p := somebody(middle.With(2, api.Tall), place{100, -100, 0}, true)
	vel := place{100 + (16384-100)/4, -100 - (258-100)/4, 0}
	expect(t, open(), p, api.Command{Dx: 127, Dy: -2}, vel, vel, true)
}

func TestJump(t *testing.T) {
	m := open()
	low := middle.With(2, api.Tall)
	leap := place{0, 0, api.Leap - api.Gravity}
	fall := place{0, 0, -api.Gravity}
	for _, b := range []uint8{1, 3, 5, 129, 255} {
		expect(t, m, somebody(low, place{}, true), api.Command{Buttons: b}, leap, leap, false)
		expect(t, m, somebody(low, place{0, 0, 9}, true), api.Command{Buttons: b}, leap, leap, false)
		expect(t, m, somebody(low, place{0, 0, api.Most}, true), api.Command{Buttons: b}, leap, leap, false)
		expect(t, m, somebody(low, place{0, 0, -api.Most}, true), api.Command{Buttons: b}, leap, leap, false)
		expect(t, m, somebody(middle, place{}, false), api.Command{Buttons: b}, fall, fall, false)
		// Who is not on the ground does not leap from it, though it is there.
		expect(t, m, somebody(low, place{}, false), api.Command{Buttons: b}, place{}, place{}, true)
	}
	for _, b := range []uint8{0, 2, 4, 128, 252, 254} {
		expect(t, m, somebody(low, place{}, true), api.Command{Buttons: b}, place{}, place{}, true)
	}
}

// Buttons beside Jump and Slide mean nothing; both of them hold at once.
func TestButtons(t *testing.T) {
	m := open()
	low := middle.With(2, api.Tall)
	for b := range 256 {
		vel := place{4096, 0, 0}
		if b&api.Slide != 0 {
			vel[0] = 1024
		}
		went, ground := vel, true
		if b&api.Jump != 0 {
			vel[2], went[2], ground = 23552, 23552, false
		}
		expect(t, m, somebody(low, place{}, true), api.Command{Dx: 127, Buttons: uint8(b)}, vel, went, ground)
	}
}

// What else a command says means nothing to a tick.
func TestTickOfSeqAndTicks(t *testing.T) {
	p := somebody(middle, place{}, false)
	vel := place{1024, -1024, -api.Gravity}
	for _, n := range []int{0, 1, 8, 9, -1, math.MaxInt, math.MinInt} {
		expect(t, open(), p, api.Command{Seq: uint16(n), Dx: 127, Dy: -127, Ticks: n}, vel, vel, false)
	}
}

func TestGravityAndMost(t *testing.T) {
	m := open()
	for _, x := range []struct{ was, want int64 }{
		{0, -api.Gravity}, {1, 1 - api.Gravity}, {api.Gravity, 0}, {api.Gravity + 1, 1}, {api.Most, api.Most - api.Gravity},
		{-api.Most + api.Gravity + 1, -api.Most + 1}, {-api.Most + api.Gravity, -api.Most}, {-api.Most + api.Gravity - 1, -api.Most}, {-api.Most, -api.Most},
		// Those that are faster than they may be are cut behind gravity, not ahead of it.
		{api.Most + 1, api.Most + 1 - api.Gravity}, {api.Most + api.Gravity, api.Most}, {api.Most + api.Gravity + 1, api.Most}, {1 << 40, api.Most}, {-1 << 40, -api.Most},
	} {
		vel := place{0, 0, x.want}
		expect(t, m, somebody(middle, place{0, 0, x.was}, false), api.Command{}, vel, vel, false)
	}
	for axis := range 2 {
		// A sixteenth of 34952 is 2184, and what is left just Most.
		for _, x := range []struct{ was, want int64 }{
			{34951, api.Most - 1}, {34952, api.Most}, {34953, api.Most}, {34954, api.Most}, {1 << 40, api.Most},
			{-34951, 1 - api.Most}, {-34952, -api.Most}, {-34953, -api.Most}, {-34954, -api.Most}, {-1 << 40, -api.Most},
		} {
			vel := place{0, 0, -api.Gravity}.With(axis, x.want)
			expect(t, m, somebody(middle, place{}.With(axis, x.was), false), api.Command{}, vel, vel, false)
		}
	}
}

func TestDead(t *testing.T) {
	m := open()
	run := api.Command{Dx: 127, Dy: -127, Buttons: api.Jump, Ticks: 3}
	for _, n := range []int{1, 2, api.Back, math.MaxInt} {
		for _, p := range []api.Player{
			somebody(middle, place{1, 2, 3}, true), somebody(middle.With(2, api.Tall), place{}, true), somebody(middle, place{1 << 20, 0, least}, false),
			somebody(place{}, place{}, false), {},
		} {
			p.Dead = n
			if got := walk.Tick(m, p, run); got != p {
				t.Errorf("dead for %d: %+v is not\n%+v", n, got, p)
			}
			if got := walk.Step(m, p, run); got != p {
				t.Errorf("dead for %d, step: %+v is not\n%+v", n, got, p)
			}
		}
	}
	for _, n := range []int{0, -1, -api.Back, math.MinInt} {
		p := somebody(middle, place{}, true)
		p.Dead = n
		vel := place{4096, -4096, api.Leap - api.Gravity}
		expect(t, m, p, run, vel, vel, false)
	}
	// How healthy it is means nothing here.
	p := somebody(middle, place{}, false)
	p.Health = 0
	expect(t, m, p, api.Command{}, place{0, 0, -api.Gravity}, place{0, 0, -api.Gravity}, false)
}
