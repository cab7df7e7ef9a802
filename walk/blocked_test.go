package walk_test

import (
	"testing"

	"embrasure/api"
	"embrasure/plan"
	"embrasure/walk"
)

// An axis is blocked just if one touches the map's end and goes against it, whatever the others are.
func TestBlockedAxes(t *testing.T) {
	m := open()
	for mask := range 1 << 9 {
		at, vel := middle, place{}
		var want, went place
		ground := false
		for axis := range 3 {
			bits := mask >> (3 * axis)
			touches, goes, rises := bits&1 != 0, bits&2 != 0, bits&4 != 0
			way := int64(-1)
			if rises {
				way = 1
			}
			if touches && rises {
				at[axis] = 4*one - reach[axis]
			} else if touches {
				at[axis] = reach[axis]
			}
			if goes {
				vel[axis] = way
			}
			if goes && !touches {
				want[axis], went[axis] = way, way
			}
			// Who hits its head is not on the ground, nor is who stays as high as it was.
			ground = axis == 2 && goes && touches && !rises
		}
		vel[2] += api.Gravity
		expect(t, m, somebody(at, vel, false), api.Command{}, want, went, ground)
	}
}

func TestCeiling(t *testing.T) {
	m := plan.Open(4, 4, 2)
	under := middle.With(2, 2*one-api.Tall)
	expect(t, m, somebody(under, place{0, 0, api.Gravity + 1}, false), api.Command{}, place{}, place{}, false)
	expect(t, m, somebody(under, place{0, 0, api.Gravity + 1}, true), api.Command{}, place{}, place{}, false)
	expect(t, m, somebody(under, place{0, 0, api.Most}, false), api.Command{}, place{}, place{}, false)
	// Who leaps in a room just one fifth of a cell higher than itself stays below, and is in the air.
	expect(t, m, somebody(under.With(2, api.Tall), place{}, true), api.Command{Buttons: api.Jump, Dy: 127}, place{0, 4096, 0}, place{0, 4096, 0}, false)
}

// One falls all the way of a tick or not at all, and is on the ground as soon as the way is not free.
func TestLanding(t *testing.T) {
	m := open()
	fall := int64(5 * api.Gravity)
	for _, x := range []struct {
		gap    int64
		ground bool
	}{{fall + 1, false}, {fall, false}, {fall - 1, true}, {1, true}, {0, true}} {
		at := middle.With(2, api.Tall+x.gap)
		vel := place{0, 0, -fall}
		if x.ground {
			vel = place{}
		}
		expect(t, m, somebody(at, place{0, 0, api.Gravity - fall}, false), api.Command{}, vel, vel, x.ground)
	}
	// Whose speed gravity just eats up goes no way, and so is blocked by nothing.
	expect(t, m, somebody(middle.With(2, api.Tall), place{0, 0, api.Gravity}, true), api.Command{}, place{}, place{}, false)
	expect(t, m, somebody(middle.With(2, api.Tall), place{0, 0, api.Gravity - 1}, true), api.Command{}, place{}, place{}, true)
}

// Whoever goes over an edge falls in the tick in which nothing of its box is above it any more.
func TestOverAnEdge(t *testing.T) {
	m := plan.Of([]string{"##..", "##..", "##..", "##.."}, []string{"....", "....", "....", "...."}, []string{"....", "....", "....", "...."}, []string{"....", "....", "....", "...."})
	last := 2*one + int64(api.Wide) - 1
	on := place{last, 2 * one, one + api.Tall}
	fall := place{0, 0, -api.Gravity}
	expect(t, m, somebody(on, place{}, true), api.Command{}, place{}, place{}, true)
	expect(t, m, somebody(on.With(0, last+1), place{}, true), api.Command{}, fall, fall, false)
	// X goes ahead of Z: with a speed of 1, which a fourth of it does not slow, it is beyond already.
	over := place{1, 0, -api.Gravity}
	expect(t, m, somebody(on, place{1, 0, 0}, true), api.Command{}, over, over, false)
	expect(t, m, somebody(on.With(0, last-1), place{1, 0, 0}, true), api.Command{}, place{1, 0, 0}, place{1, 0, 0}, true)
	p := somebody(on.With(0, one), place{}, true)
	for n := range 40 {
		p = walk.Tick(m, p, api.Command{Dx: 127})
		if p.Ground != (p.Pos.X <= last) || p.Ground != (p.Pos.Z == on[2]) {
			t.Fatalf("tick %d: %+v", n, p)
		}
		if !p.Ground {
			return
		}
	}
	t.Errorf("never comes to the edge: %+v", p)
}

// Against a wall one slides along it, as fast as one wants along it.
func TestAlongAWall(t *testing.T) {
	m := open()
	p := somebody(place{4*one - api.Wide, 2 * one, api.Tall}, place{}, true)
	expect(t, m, p, api.Command{Dx: 127, Dy: 127}, place{0, 4096, 0}, place{0, 4096, 0}, true)
	expect(t, m, p, api.Command{Dx: -127, Dy: 127}, place{-4096, 4096, 0}, place{-4096, 4096, 0}, true)
}
