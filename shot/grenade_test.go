package shot_test

import (
	"testing"

	"embrasure/api"
	"embrasure/plan"
)

func TestGrenadeInTheAir(t *testing.T) {
	m := open()
	for _, x := range []struct{ was, vel place }{
		{place{}, place{0, 0, -1024}},
		{place{16384, -16384, 0}, place{16384, -16384, -1024}},
		{place{1, -1, 1024}, place{1, -1, 0}},
		{place{0, 0, 1025}, place{0, 0, 1}},
		{place{0, 0, 32768}, place{0, 0, 31744}},
		{place{0, 0, -31743}, place{0, 0, -32767}},
		{place{0, 0, -31744}, place{0, 0, -32768}},
		{place{0, 0, -31745}, place{0, 0, -32768}},
		{place{0, 0, -32768}, place{0, 0, -32768}},
		// It is cut behind gravity, not ahead of it.
		{place{0, 0, 32769}, place{0, 0, 31745}},
		{place{0, 0, 33792}, place{0, 0, 32768}},
		{place{0, 0, 33793}, place{0, 0, 32768}},
		{place{32767, -32767, 1024}, place{32767, -32767, 0}},
		{place{32768, -32768, 1024}, place{32768, -32768, 0}},
		{place{32769, -32769, 1024}, place{32768, -32768, 0}},
		{place{-32769, 32769, 1024}, place{-32768, 32768, 0}},
		{place{1 << 40, -1 << 40, 1 << 40}, place{32768, -32768, 32768}},
		{place{most, least, most}, place{32768, -32768, 32768}},
		// The least number with gravity taken away does not come round to the top.
		{place{least, most, least}, place{-32768, 32768, -32768}},
		{place{0, 0, least + 1023}, place{0, 0, -32768}},
		{place{0, 0, least + 1024}, place{0, 0, -32768}},
	} {
		at := middle
		for axis, n := range x.vel {
			at[axis] += n
		}
		// Whatever is no rocket flies as a grenade.
		for _, kind := range []int{api.Grenade, 2, -1, most, least, 1 << 32} {
			expect(t, m, some(kind, middle, x.was), at, x.vel, false)
		}
	}
}

// bounces are how fast one is, and how fast it is when it was thrown back.
var bounces = []struct{ was, vel int64 }{
	{1, 0}, {-1, 0}, {2, -1}, {-2, 1}, {3, -1}, {-3, 1}, {1000, -500}, {1001, -500}, {-1000, 500}, {-1001, 500},
	{16384, -8192}, {-16384, 8192}, {32767, -16383}, {-32767, 16383}, {32768, -16384}, {-32768, 16384},
	{32769, -16384}, {-32769, 16384}, {most, -16384}, {least, 16384},
}

// Each axis alone is thrown back at the map's end, and the two others go on.
func TestGrenadeAgainstWalls(t *testing.T) {
	m := open()
	for axis := range 2 {
		for _, x := range bounces {
			at := middle.With(axis, 0)
			if x.was > 0 {
				at = middle.With(axis, 5*one-1)
			}
			other := 1 - axis
			s := some(api.Grenade, at, place{0, 0, -3000}.With(axis, x.was).With(other, 700))
			to := at.With(other, at[other]+700).With(2, at[2]-4024)
			expect(t, m, s, to, place{0, 0, -4024}.With(axis, x.vel).With(other, 700), false)
		}
		// Just to the end, and one farther.
		for _, x := range []struct {
			at, by int64
			hits   bool
		}{{100, -100, false}, {99, -100, true}, {5*one - 101, 100, false}, {5*one - 100, 100, true}, {0, 0, false}, {0, 100, false}, {5*one - 1, -100, false}} {
			at, vel := middle.With(axis, x.at), place{0, 0, -1024}.With(axis, x.by)
			to := at.With(2, at[2]-1024)
			s := some(api.Grenade, at, vel.With(2, 0))
			if x.hits {
				expect(t, m, s, to, vel.With(axis, -x.by/2), false)
			} else {
				expect(t, m, s, to.With(axis, x.at+x.by), vel, false)
			}
		}
	}
}

// Against a ceiling it is thrown down, however slow it is, and never rests there.
func TestGrenadeAgainstTheCeiling(t *testing.T) {
	m := open()
	at := middle.With(2, 5*one-1)
	for _, x := range []struct{ was, vel int64 }{
		{1025, 0}, {1026, -1}, {1027, -1}, {1028, -2}, {1029, -2}, {5118, -2047}, {5119, -2047}, {5120, -2048}, {5121, -2048}, {33791, -16383}, {33792, -16384}, {33793, -16384}, {most, -16384},
	} {
		expect(t, m, some(api.Grenade, at, place{0, 0, x.was}), at, place{0, 0, x.vel}, false)
		expect(t, m, some(api.Grenade, at, place{50, -60, x.was}), place{at[0] + 50, at[1] - 60, at[2]}, place{50, -60, x.vel}, false)
	}
}

// On a floor it rests, if it is slow enough then along all axes.
func TestGrenadeOnAFloor(t *testing.T) {
	m := open()
	at := middle.With(2, 0)
	for _, x := range []struct {
		was, vel int64
		rest     bool
	}{
		{1023, 0, true}, {1022, 1, true}, {1021, 1, true}, {1020, 2, true}, {0, 512, true}, {-1, 512, true}, {-2, 513, true},
		{-3070, 2047, true}, {-3071, 2047, true}, {-3072, 2048, false}, {-3073, 2048, false}, {-3074, 2049, false},
		{-31743, 16383, false}, {-31744, 16384, false}, {-31745, 16384, false}, {least, 16384, false},
	} {
		vel := place{0, 0, x.vel}
		if x.rest {
			vel = place{}
		}
		expect(t, m, some(api.Grenade, at, place{0, 0, x.was}), at, vel, x.rest)
	}
	// Whose speed gravity just eats up does not fall, so it lies down only in the next step.
	expect(t, m, some(api.Grenade, at, place{0, 0, 1024}), at, place{}, false)
	expect(t, m, some(api.Grenade, at, place{}), at, place{}, true)
}

func TestGrenadeJustAsFastAsStill(t *testing.T) {
	m := open()
	at := middle.With(2, 0)
	for axis := range 2 {
		for _, x := range []struct {
			by   int64
			rest bool
		}{{0, true}, {1, true}, {-1, true}, {2046, true}, {2047, true}, {-2046, true}, {-2047, true}, {2048, false}, {-2048, false}, {2049, false}, {-2049, false}, {16384, false}, {-16384, false}} {
			vel := place{}.With(axis, x.by)
			to := at.With(axis, at[axis]+x.by)
			if x.rest {
				// It lies where it came to in the same step.
				expect(t, m, some(api.Grenade, at, vel), to, place{}, true)
			} else {
				expect(t, m, some(api.Grenade, at, vel), to, vel.With(2, 512), false)
			}
			both := some(api.Grenade, at, place{x.by, x.by, 0})
			if x.rest {
				expect(t, m, both, place{at[0] + x.by, at[1] + x.by, 0}, place{}, true)
			} else {
				expect(t, m, both, place{at[0] + x.by, at[1] + x.by, 0}, place{x.by, x.by, 512}, false)
			}
			// In the air, and at the ceiling, it never rests.
			expect(t, m, some(api.Grenade, middle, vel), middle.With(axis, middle[axis]+x.by).With(2, middle[2]-1024), vel.With(2, -1024), false)
		}
		// What counts is how fast it is when it was thrown back by a wall.
		for _, x := range []struct {
			by, vel int64
			rest    bool
		}{{-4094, 2047, true}, {-4095, 2047, true}, {-4096, 2048, false}, {-4097, 2048, false}} {
			from := at.With(axis, 0)
			vel := place{0, 0, 512}.With(axis, x.vel)
			if x.rest {
				vel = place{}
			}
			expect(t, m, some(api.Grenade, from, place{}.With(axis, x.by)), from, vel, x.rest)
			far := at.With(axis, 5*one-1)
			if !x.rest {
				vel[axis] = -x.vel
			}
			expect(t, m, some(api.Grenade, far, place{}.With(axis, -x.by)), far, vel, x.rest)
		}
	}
}

// A wall alone does not make it rest, nor does a floor that it rises from.
func TestGrenadeDoesNotRest(t *testing.T) {
	m := open()
	expect(t, m, some(api.Grenade, middle.With(0, 0), place{-10, 0, 1000}), place{0, middle[1], middle[2] - 24}, place{5, 0, -24}, false)
	expect(t, m, some(api.Grenade, place{0, 0, middle[2]}, place{-10, -10, 1024}), place{0, 0, middle[2]}, place{5, 5, 0}, false)
	expect(t, m, some(api.Grenade, middle.With(2, 0), place{0, 0, 1025}), middle.With(2, 1), place{0, 0, 1}, false)
	expect(t, m, some(api.Grenade, middle.With(2, 1024), place{}), middle.With(2, 0), place{0, 0, -1024}, false)
	expect(t, m, some(api.Grenade, middle.With(2, 1023), place{}), middle.With(2, 1023), place{}, true)
}

// Any of the axes together are thrown back in a corner, each of them for itself.
func TestGrenadeInCorners(t *testing.T) {
	m := open()
	for mask := range 1 << 6 {
		at, vel := middle, place{}
		to, then := middle, place{}
		for axis := range 3 {
			way := int64(10000)
			if mask>>axis&1 != 0 {
				way = -way
			}
			vel[axis], then[axis], to[axis] = way, way, at[axis]+way
			if mask>>(3+axis)&1 != 0 {
				at[axis] = 0
				if way > 0 {
					at[axis] = 5*one - 1
				}
				to[axis], then[axis] = at[axis], -way/2
			}
		}
		vel[2] += api.Gravity
		expect(t, m, some(api.Grenade, at, vel), to, then, false)
	}
}

// One axis goes behind the other: what X reached is where Y is asked, and so on.
func TestGrenadeGoesAxisByAxis(t *testing.T) {
	at := place{3*one - 1, 3*one - 1, 3*one - 1}
	vel := place{4, 6, 8}
	for _, x := range []struct {
		solid place
		hits  [3]bool
	}{
		{place{3, 2, 2}, [3]bool{true, false, false}},
		{place{2, 3, 2}, [3]bool{}}, {place{2, 2, 3}, [3]bool{}}, {place{2, 3, 3}, [3]bool{}}, {place{3, 2, 3}, [3]bool{}},
		{place{3, 3, 2}, [3]bool{false, true, false}},
		{place{3, 3, 3}, [3]bool{false, false, true}},
	} {
		m := plan.Set(open(), int(x.solid[0]), int(x.solid[1]), int(x.solid[2]))
		to, then := at, vel
		for axis, hit := range x.hits {
			if hit {
				then[axis] = -vel[axis] / 2
			} else {
				to[axis] += vel[axis]
			}
		}
		expect(t, m, some(api.Grenade, at, vel.With(2, vel[2]+api.Gravity)), to, then, false)
	}
	// Where X is thrown back, Y and Z are asked at the old X.
	m := plan.Set(plan.Set(plan.Set(open(), 3, 2, 2), 2, 3, 2), 2, 2, 3)
	expect(t, m, some(api.Grenade, at, vel.With(2, vel[2]+api.Gravity)), at, place{-2, -3, -4}, false)
	m = plan.Set(plan.Set(open(), 3, 2, 2), 2, 3, 3)
	expect(t, m, some(api.Grenade, at, vel.With(2, vel[2]+api.Gravity)), place{at[0], at[1] + 6, at[2]}, place{-2, 6, -4}, false)
	// Rolling over an edge it falls, and is not on a floor.
	edge := plan.Set(open(), 2, 2, 1)
	on := place{3*one - 1, middle[1], 2 * one}
	expect(t, edge, some(api.Grenade, on, place{1, 0, 0}), place{3 * one, on[1], on[2] - 1024}, place{1, 0, -1024}, false)
	expect(t, edge, some(api.Grenade, on.With(0, on[0]-1), place{1, 0, 0}), on, place{}, true)
}

// In a cell, or beyond the map, all axes are thrown back that do not lead out.
func TestGrenadeThatBeginsSolid(t *testing.T) {
	m := plan.Set(open(), 2, 2, 2)
	expect(t, m, some(api.Grenade, middle, place{9000, -9001, 0}), middle, place{-4500, 4500, 512}, false)
	expect(t, m, some(api.Grenade, middle, place{4095, -4095, 0}), middle, place{}, true)
	expect(t, m, some(api.Grenade, middle, place{4095, -4095, 1024}), middle, place{-2047, 2047, 0}, false)
	expect(t, m, some(api.Grenade, middle, place{32768, 8, 8}), middle.With(0, 3*one).With(1, middle[1]+8).With(2, middle[2]-1016), place{32768, 8, -1016}, false)
	for _, n := range []int64{-1, 5 * one, 1 << 40, -1 << 40, most, least} {
		for axis := range 3 {
			at := middle.With(axis, n)
			if n == -1 && axis < 2 {
				expect(t, m, some(api.Grenade, at, place{}.With(axis, 1)), at.With(axis, 0).With(2, at[2]-1024), place{0, 0, -1024}.With(axis, 1), false)
			}
			expect(t, m, some(api.Grenade, at, place{-9000, 9001, 1024}.With(axis, 0).With(2, 1024)), at, place{4500, -4500, 0}.With(axis, 0), false)
		}
	}
	// At the ends of 64 bits it does not come round to the map's other side.
	for axis := range 3 {
		for _, x := range []struct{ at, by, vel int64 }{{most, most, -16384}, {least, least, 16384}} {
			at := middle.With(axis, x.at)
			vel := place{0, 0, 1024}.With(axis, x.by)
			then := place{}.With(axis, x.vel)
			expect(t, open(), some(api.Grenade, at, vel), at, then, false)
		}
	}
}
