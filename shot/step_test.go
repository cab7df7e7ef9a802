package shot_test

import (
	"math"
	"reflect"
	"slices"
	"testing"

	"embrasure/api"
	"embrasure/plan"
	"embrasure/shot"
)

// middle is that of a map of 5 cells each way, which has nothing near.
var middle = place{5 * one / 2, 5 * one / 2, 5 * one / 2}

func open() api.Map { return plan.Open(5, 5, 5) }

// some is a shot whose other fields all are something, so that it shows if one does not stay.
func some(kind int, at, vel place) api.Shot {
	return api.Shot{ID: 7, Owner: -3, Kind: kind, Pos: at.Vec(), Vel: vel.Vec(), Fuse: 50}
}

// expect is a step of a shot that does not burst: where it is then, how fast, and whether it rests.
func expect(t *testing.T, m api.Map, s api.Shot, at, vel place, rest bool) {
	t.Helper()
	want := s
	want.Fuse, want.Pos, want.Vel, want.Rest = s.Fuse-1, at.Vec(), vel.Vec(), rest
	for range 2 {
		if got, burst := shot.Step(m, s); got != want || burst {
			t.Errorf("of %+v: %v,\n%+v is not\n%+v", s, burst, got, want)
		}
	}
}

// expectBurst is a step in which a shot bursts where it is.
func expectBurst(t *testing.T, m api.Map, s api.Shot) {
	t.Helper()
	want := s
	if s.Fuse > math.MinInt {
		want.Fuse--
	}
	for range 2 {
		if got, burst := shot.Step(m, s); got != want || !burst {
			t.Errorf("of %+v: %v,\n%+v is not\n%+v", s, burst, got, want)
		}
	}
}

func TestFuse(t *testing.T) {
	m := open()
	for kind := range 3 {
		flies := some(kind, middle, place{1, 2, api.Gravity})
		rests := some(kind, middle, place{1, 2, 3})
		rests.Rest = true
		stuck := some(kind, place{-one, 0, 0}, place{1, 2, 3})
		// A way that would be solid, too, is not gone when the Fuse is at its end.
		ahead := some(kind, place{5*one - 1, one, one}, place{1, 0, api.Gravity})
		for _, fuse := range []int{1, 0, -1, -60, math.MinInt + 1, math.MinInt} {
			for _, s := range []api.Shot{flies, rests, stuck, ahead} {
				s.Fuse = fuse
				expectBurst(t, m, s)
			}
		}
		for _, fuse := range []int{2, 3, 200, 1 << 32, 1<<32 + 1, math.MaxInt} {
			flies.Fuse, rests.Fuse = fuse, fuse
			vel := place{1, 2, api.Gravity}
			if kind != api.Rocket {
				vel[2] = 0
			}
			expect(t, m, flies, place{middle[0] + 1, middle[1] + 2, middle[2] + vel[2]}, vel, false)
			expect(t, m, rests, middle, place{1, 2, 3}, true)
		}
	}
}

// Whatever is at rest stays, wherever it is and however fast it is told to be.
func TestRestStays(t *testing.T) {
	for kind := range 4 {
		for _, at := range []place{middle, {}, {-1, -1, -1}, {most, least, 9 * one}} {
			for _, vel := range []place{{}, {1, 2, 3}, {api.Most + 1, least, most}} {
				s := some(kind, at, vel)
				s.Rest = true
				expect(t, open(), s, at, vel, true)
				expect(t, api.Map{}, s, at, vel, true)
			}
		}
	}
}

func TestRocketInTheAir(t *testing.T) {
	for _, vel := range []place{
		{}, {1, 0, 0}, {0, -1, 0}, {0, 0, -1}, {api.RocketSpeed, 0, 0}, {-15134, 15134, -15134},
		// Nothing pulls it down, and nothing cuts how fast it is.
		{0, 0, 26214}, {api.Most, -api.Most, api.Most}, {api.Most + 1, -api.Most - 1, api.Most + 1}, {2 * one, -2 * one, 2 * one},
	} {
		at := middle
		for axis, n := range vel {
			at[axis] += n
		}
		expect(t, open(), some(api.Rocket, middle, vel), at, vel, false)
	}
}

func TestRocketBeforeACell(t *testing.T) {
	m := plan.Set(open(), 3, 2, 2)
	for _, n := range []int64{one/2 - 1, 3 * one / 2} {
		expect(t, m, some(api.Rocket, middle, place{n, 0, 0}), middle.With(0, middle[0]+n), place{n, 0, 0}, false)
	}
	for _, n := range []int64{one / 2, one/2 + 1, one, 3*one/2 - 1} {
		expectBurst(t, m, some(api.Rocket, middle, place{n, 0, 0}))
	}
	// All axes go at once: round the edge to a free cell, and over it to one that is solid.
	expect(t, m, some(api.Rocket, middle, place{one, one, 0}), place{7 * one / 2, 7 * one / 2, middle[2]}, place{one, one, 0}, false)
	expectBurst(t, m, some(api.Rocket, place{3*one - 1, 3 * one, 3 * one}, place{1, -1, -1}))
	for _, vel := range []place{{1, -1, 0}, {1, 0, -1}, {0, -1, -1}, {1, 0, 0}} {
		at := place{3*one - 1 + vel[0], 3*one + vel[1], 3*one + vel[2]}
		expect(t, m, some(api.Rocket, place{3*one - 1, 3 * one, 3 * one}, vel), at, vel, false)
	}
}

func TestRocketBeforeTheEnd(t *testing.T) {
	for axis := range 3 {
		for _, x := range []struct {
			at, by int64
			burst  bool
		}{
			{0, -1, true}, {1, -1, false}, {1, -2, true}, {5*one - 1, 1, true}, {5*one - 2, 1, false}, {5*one - 2, 2, true}, {5*one - 1, -1, false}, {0, 1, false},
			{26214, -26214, false}, {26213, -26214, true}, {5*one - 26215, 26214, false}, {5*one - 26214, 26214, true},
			{one, 4 * one, true}, {one, 4*one - 1, false}, {one, -one, false}, {one, -one - 1, true}, {one, most, true}, {one, least, true}, {one, most - one, true},
		} {
			vel := place{}.With(axis, x.by)
			s := some(api.Rocket, middle.With(axis, x.at), vel)
			if x.burst {
				expectBurst(t, open(), s)
			} else {
				expect(t, open(), s, middle.With(axis, x.at+x.by), vel, false)
			}
		}
	}
}

// Along a cell's side it flies: a cell has its beginning, and not its end.
func TestRocketAlongASide(t *testing.T) {
	wall := open()
	for i := range 25 {
		wall = plan.Set(wall, 2, i%5, i/5)
	}
	vel := place{0, 26214, -26214}
	for _, x := range []struct {
		at    int64
		burst bool
	}{{2*one - 1, false}, {2 * one, true}, {3*one - 1, true}, {3 * one, false}} {
		s := some(api.Rocket, place{x.at, one, 3 * one}, vel)
		if x.burst {
			expectBurst(t, wall, s)
		} else {
			expect(t, wall, s, place{x.at, one + 26214, 3*one - 26214}, vel, false)
		}
	}
}

// Only the place at the end counts: a rocket that begins in a cell, or beyond the map, gets out of it.
func TestRocketThatBeginsSolid(t *testing.T) {
	m := plan.Set(open(), 2, 2, 2)
	expectBurst(t, m, some(api.Rocket, middle, place{}))
	expectBurst(t, m, some(api.Rocket, middle, place{one/2 - 1, 0, 0}))
	expect(t, m, some(api.Rocket, middle, place{one / 2, 0, 0}), middle.With(0, 3*one), place{one / 2, 0, 0}, false)
	expect(t, m, some(api.Rocket, place{-1, 0, 0}, place{1, 0, 0}), place{}, place{1, 0, 0}, false)
	expectBurst(t, m, some(api.Rocket, place{-2, 0, 0}, place{1, 0, 0}))
	expect(t, m, some(api.Rocket, place{5 * one, one, one}, place{-1, 0, 0}), place{5*one - 1, one, one}, place{-1, 0, 0}, false)
	expectBurst(t, m, some(api.Rocket, place{1 << 40, one, one}, place{-1 << 39, 0, 0}))
	expect(t, m, some(api.Rocket, place{1 << 40, one, one}, place{one - 1<<40, 0, 0}), place{one, one, one}, place{one - 1<<40, 0, 0}, false)
}

// At the ends of 64 bits a rocket does not come round to the map's other side.
func TestRocketAtTheEndsOfNumbers(t *testing.T) {
	for axis := range 3 {
		for _, x := range []struct{ at, by int64 }{{least, least}, {least, least + one}, {most, most}, {most, least}, {most, 2 + one}, {most, most - one}, {least + one, least}, {least, -1}, {most, 1}} {
			expectBurst(t, open(), some(api.Rocket, middle.With(axis, x.at), place{}.With(axis, x.by)))
		}
		at := most - int64(one)
		vel := place{}.With(axis, one-at)
		expect(t, open(), some(api.Rocket, middle.With(axis, at), vel), middle.With(axis, one), vel, false)
	}
}

// In a map that is not sized all is solid.
func TestStepInNoMap(t *testing.T) {
	for _, m := range plan.Unsized() {
		expectBurst(t, m, some(api.Rocket, middle, place{}))
		expectBurst(t, m, some(api.Rocket, place{}, place{1, 1, 1}))
		expect(t, m, some(api.Grenade, place{one, one, one}, place{5001, -5001, 0}), place{one, one, one}, place{-2500, 2500, 512}, false)
		expect(t, m, some(api.Grenade, place{one, one, one}, place{4001, -4001, 0}), place{one, one, one}, place{}, true)
		rests := some(api.Grenade, middle, place{})
		rests.Rest = true
		expect(t, m, rests, middle, place{}, true)
	}
}

func TestMapsStayAsTheyWere(t *testing.T) {
	m := plan.Mixed(5, 5, 5, 9, 1)
	m.Spawns = []api.Vec{middle.Vec(), {}}
	was := m
	was.Solid, was.Spawns = slices.Clone(m.Solid), slices.Clone(m.Spawns)
	for kind := range 3 {
		s := some(kind, middle, place{26214, 1, 2})
		shot.Step(m, s)
		shot.Advance(m, s, 100)
	}
	if !reflect.DeepEqual(m, was) {
		t.Error("the map has changed")
	}
	n := open()
	s := some(api.Rocket, middle, place{1, 0, 0})
	_, before := shot.Step(n, s)
	for i := range n.Solid {
		n.Solid[i] = true
	}
	if _, after := shot.Step(n, s); before || !after {
		t.Errorf("written over: %v, and then %v", before, after)
	}
}
