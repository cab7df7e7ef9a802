package walk_test

import (
	"math"
	"reflect"
	"slices"
	"testing"

	"embrasure/api"
	"embrasure/plan"
	"embrasure/trace"
	"embrasure/walk"
)

func TestStepIsSoManyTicks(t *testing.T) {
	m := open()
	p := somebody(middle.With(2, api.Tall), place{}, true)
	c := api.Command{Seq: 9, Dx: 127, Dy: -3, Buttons: api.Jump}
	want := p
	for n := 1; n <= api.MaxTicks; n++ {
		want = walk.Tick(m, want, c)
		c.Ticks = n
		if got := walk.Step(m, p, c); got != want || got == p {
			t.Errorf("%d ticks: %+v is not\n%+v", n, got, want)
		}
	}
}

func TestStepOfTooFewOrTooMany(t *testing.T) {
	p := somebody(middle, place{1, 2, 3}, false)
	for _, n := range []int{0, -1, -8, math.MinInt, api.MaxTicks + 1, 2 * api.MaxTicks, 257, 1 << 32, math.MaxInt} {
		if got := walk.Step(open(), p, api.Command{Dx: 127, Ticks: n}); got != p {
			t.Errorf("%d ticks: %+v", n, got)
		}
	}
}

func TestRight(t *testing.T) {
	m := open()
	for axis := range 3 {
		for _, x := range []struct {
			at   int64
			want bool
		}{
			{reach[axis], true}, {reach[axis] - 1, false}, {reach[axis] + 1, true}, {4*one - reach[axis], true}, {4*one - reach[axis] + 1, false}, {4*one - reach[axis] - 1, true},
			{-one, false}, {5 * one, false}, {most, false}, {least, false},
		} {
			if got := walk.Right(m, somebody(middle.With(axis, x.at), place{}, false)); got != x.want {
				t.Errorf("axis %d at %d: %v", axis, x.at, got)
			}
		}
		for _, x := range []struct {
			vel  int64
			want bool
		}{
			{0, true}, {api.Most - 1, true}, {api.Most, true}, {api.Most + 1, false}, {1 - api.Most, true}, {-api.Most, true}, {-api.Most - 1, false},
			{most, false}, {least, false}, {least + 1, false}, {1 << 32, false}, {-1 << 32, false},
		} {
			if got := walk.Right(m, somebody(middle, place{}.With(axis, x.vel), false)); got != x.want {
				t.Errorf("axis %d as fast as %d: %v", axis, x.vel, got)
			}
			if walk.Right(m, somebody(place{}, place{}.With(axis, x.vel), false)) {
				t.Errorf("axis %d as fast as %d, in a wall, is right", axis, x.vel)
			}
		}
	}
	if !walk.Right(m, somebody(middle, place{api.Most, -api.Most, api.Most}, false)) {
		t.Error("as fast as it may be along all axes")
	}
	if walk.Right(plan.Set(m, 2, 1, 2), somebody(middle, place{}, false)) {
		t.Error("in a cell")
	}
}

// Nothing but its place and its speed makes a player right.
func TestRightOfOtherFields(t *testing.T) {
	for _, p := range []api.Player{
		{Pos: middle.Vec()}, {Pos: middle.Vec(), Dead: 3}, {Pos: middle.Vec(), Dead: -3}, {Pos: middle.Vec(), Ground: true, Health: -1, ID: -1, Wait: -9, Ammo: [2]int{-1, -1}},
	} {
		if !walk.Right(open(), p) {
			t.Errorf("%+v is not right", p)
		}
	}
	if walk.Right(open(), api.Player{Dead: 3}) {
		t.Error("dead in a wall is right")
	}
}

// Nothing is promised of these but that it ends, and is the same again.
func TestWhatIsNotRightEnds(t *testing.T) {
	speeds := []int64{0, most, least, most - api.Gravity, least + api.Gravity, 1 << 62, -1 << 62}
	for _, m := range append(plan.Unsized(), open()) {
		for i, n := range speeds {
			p := somebody(place{n, speeds[(i+1)%7], speeds[(i+2)%7]}, place{speeds[(i+3)%7], n, speeds[(i+4)%7]}, i%2 == 0)
			c := api.Command{Dx: -128, Dy: 127, Buttons: uint8(i), Ticks: api.MaxTicks}
			if walk.Tick(m, p, c) != walk.Tick(m, p, c) || walk.Step(m, p, c) != walk.Step(m, p, c) {
				t.Errorf("%+v: two answers", p)
			}
			if walk.Right(m, p) {
				t.Errorf("%+v is right", p)
			}
		}
	}
	for i, m := range plan.Unsized() {
		if walk.Right(m, somebody(middle, place{}, false)) {
			t.Errorf("%d, of %d by %d by %d: right", i, m.W, m.D, m.H)
		}
	}
}

func TestMapsStayAsTheyWere(t *testing.T) {
	m := plan.Mixed(4, 4, 4, 9, 1)
	m.Spawns = []api.Vec{middle.Vec(), {}}
	was := m
	was.Solid, was.Spawns = slices.Clone(m.Solid), slices.Clone(m.Spawns)
	p := somebody(middle, place{1, 2, 3}, true)
	walk.Tick(m, p, api.Command{Dx: 1, Buttons: 3})
	walk.Step(m, p, api.Command{Dx: 1, Ticks: 8})
	walk.Right(m, p)
	if !reflect.DeepEqual(m, was) {
		t.Error("the map has changed")
	}
	n := open()
	before := walk.Right(n, p)
	for i := range n.Solid {
		n.Solid[i] = true
	}
	if after := walk.Right(n, p); !before || after {
		t.Errorf("written over: %v, and then %v", before, after)
	}
}

// nought divides a number without that its sign plays a part.
func nought(n, by int64) int64 {
	if n < 0 {
		return -(-n / by)
	}
	return n / by
}

// wantTick is the chapter's tick, axis by axis, of a player that is right.
func wantTick(m api.Map, p api.Player, c api.Command) api.Player {
	if p.Dead > 0 {
		return p
	}
	share := int64(16)
	if p.Ground && c.Buttons>>1&1 == 0 {
		share = 4
	}
	p.Vel.X += nought(nought(int64(c.Dx)*16384, 127)-p.Vel.X, share)
	p.Vel.Y += nought(nought(int64(c.Dy)*16384, 127)-p.Vel.Y, share)
	if p.Ground && c.Buttons&1 == 1 {
		p.Vel.Z = 24576
	}
	p.Vel.Z = max(p.Vel.Z-1024, -32768)
	p.Ground = false
	was := p.Pos
	if p.Pos.X += p.Vel.X; !trace.Free(m, p.Pos) {
		p.Pos.X, p.Vel.X = was.X, 0
	}
	if p.Pos.Y += p.Vel.Y; !trace.Free(m, p.Pos) {
		p.Pos.Y, p.Vel.Y = was.Y, 0
	}
	if p.Pos.Z += p.Vel.Z; !trace.Free(m, p.Pos) {
		p.Ground = p.Vel.Z < 0
		p.Pos.Z, p.Vel.Z = was.Z, 0
	}
	return p
}

// wish is what a player may want, mostly all of it.
func wish(seed *uint32) api.Command {
	d := func() int8 { return [4]int8{127, -127, int8(plan.Next(seed)), 0}[plan.Next(seed)%4] }
	return api.Command{Seq: uint16(plan.Next(seed)), Buttons: uint8(plan.Next(seed) % 4), Dx: d(), Dy: d(), Ticks: int(plan.Next(seed)%api.MaxTicks) + 1}
}

// anybody is a player anywhere, as fast as it may be; it may not be free.
func anybody(seed *uint32) api.Player {
	n := func() int64 { return plan.Next(seed) - api.Most }
	at := place{plan.Next(seed) * 5, plan.Next(seed) * 5, plan.Next(seed) * 6}
	p := somebody(at, place{n(), n(), n()}, plan.Next(seed)%2 == 0)
	p.Dead = int(plan.Next(seed)%3) - 2
	return p
}

// who tells apart what became of a player in a tick.
func who(was, p api.Player) string {
	switch {
	case p.Ground && !was.Ground:
		return "landed"
	case was.Ground && p.Vel.Z > 0:
		return "leapt"
	case was.Ground && !p.Ground && p.Vel.Z < 0:
		return "fell"
	case was.Vel.Z > api.Gravity && p.Vel.Z == 0:
		return "hit its head"
	case p.Pos.X == was.Pos.X && was.Vel.X != 0 && p.Vel.X == 0:
		return "went against a wall"
	}
	return "went on"
}

// In many maps, the long ways of many players, who are right as long as they go.
func TestManyWays(t *testing.T) {
	seed := uint32(11)
	seen := map[string]int{}
	for i := range 500 {
		m := plan.Mixed(5, 5, 6, 9, uint32(i))
		p := anybody(&seed)
		if !walk.Right(m, p) {
			continue
		}
		for range 100 {
			c := wish(&seed)
			next := p
			for range c.Ticks {
				was := next
				want := wantTick(m, next, c)
				if next = walk.Tick(m, next, c); next != want || !walk.Right(m, next) {
					t.Fatalf("map %d, %+v, of\n%+v:\n%+v is not\n%+v", i, c, was, next, want)
				}
				seen[who(was, next)]++
			}
			if got := walk.Step(m, p, c); got != next {
				t.Fatalf("map %d, %+v, of\n%+v: step:\n%+v is not\n%+v", i, c, p, got, next)
			}
			parts(t, m, p, c)
			p = next
		}
	}
	for _, s := range []string{"landed", "leapt", "fell", "hit its head", "went against a wall", "went on"} {
		if seen[s] < 200 {
			t.Errorf("only %d that %s", seen[s], s)
		}
	}
}

// parts holds two steps against one of both ticks, of all parts that the ticks have.
func parts(t *testing.T, m api.Map, p api.Player, c api.Command) {
	t.Helper()
	whole := walk.Step(m, p, c)
	first, then := c, c
	for n := 1; n < c.Ticks; n++ {
		first.Ticks, then.Ticks = n, c.Ticks-n
		if got := walk.Step(m, walk.Step(m, p, first), then); got != whole {
			t.Fatalf("%+v, of\n%+v: %d and then the others:\n%+v is not\n%+v", c, p, n, got, whole)
		}
	}
}
