package shot_test

import (
	"math"
	"math/big"
	"testing"

	"embrasure/api"
	"embrasure/plan"
	"embrasure/shot"
)

// expectAdvance holds what became of a shot against what was told of it.
func expectAdvance(t *testing.T, m api.Map, s api.Shot, n int, want api.Shot, steps int, burst bool) {
	t.Helper()
	if got, did, is := shot.Advance(m, s, n); got != want || did != steps || is != burst {
		t.Errorf("%d steps of %+v: %d, %v,\n%+v is not %d, %v,\n%+v", n, s, did, is, got, steps, burst, want)
	}
}

func TestAdvanceOfNoSteps(t *testing.T) {
	at := place{5*one - 1, one, one}
	for _, n := range []int{0, -1, -8, math.MinInt} {
		for kind := range 3 {
			for _, fuse := range []int{50, 1, 0, -1, math.MinInt} {
				s := some(kind, at, place{1, 2, 3})
				s.Fuse = fuse
				expectAdvance(t, open(), s, n, s, 0, false)
				s.Rest = true
				expectAdvance(t, open(), s, n, s, 0, false)
			}
		}
	}
}

func TestAdvanceOfOneStep(t *testing.T) {
	m := open()
	for kind := range 3 {
		for _, at := range []place{middle, {5*one - 1, one, one}, {-1, 0, 0}} {
			for _, fuse := range []int{50, 2, 1, 0, -1, math.MinInt} {
				s := some(kind, at, place{1, 2, 3})
				s.Fuse = fuse
				want, burst := shot.Step(m, s)
				expectAdvance(t, m, s, 1, want, 1, burst)
			}
		}
	}
}

func TestAdvanceToTheFuse(t *testing.T) {
	for kind := range 3 {
		s := some(kind, middle, place{})
		s.Rest = true
		for _, fuse := range []int{1, 2, 3, 60, 200} {
			s.Fuse = fuse
			want := s
			for n := 1; n < fuse; n++ {
				want.Fuse = fuse - n
				expectAdvance(t, open(), s, n, want, n, false)
			}
			want.Fuse = 0
			for _, n := range []int{fuse, fuse + 1, 2 * fuse, 1 << 40, math.MaxInt} {
				expectAdvance(t, open(), s, n, want, fuse, true)
			}
		}
		// One whose Fuse is at its end already still bursts in a step, and in each that is asked for.
		for _, fuse := range []int{0, -1, -60} {
			s.Fuse = fuse
			want := s
			for range 3 {
				want.Fuse--
				expectAdvance(t, open(), s, 1, want, 1, true)
				expectAdvance(t, open(), s, 9, want, 1, true)
				s = want
			}
		}
	}
}

// Whatever it bounces against, a grenade that is just thrown bursts by its Fuse, and by nothing else.
func TestGrenadeBurstsByItsFuse(t *testing.T) {
	for _, dir := range []place{east, {0, 0, one}, {0, 0, -one}, {one, -one, 1}} {
		s, _ := shot.New(1, 2, api.Grenade, middle.Vec(), dir.Vec())
		got, steps, burst := shot.Advance(open(), s, 100)
		if steps != api.GrenadeFuse || !burst || got.Fuse != 0 {
			t.Errorf("to %v: %d, %v, %+v", dir, steps, burst, got)
		}
	}
}

func TestAdvanceToAWall(t *testing.T) {
	s, _ := shot.New(7, -3, api.Rocket, place{one, one, one}.Vec(), east.Vec())
	for n := range 15 {
		want := s
		steps, burst := n, false
		// Behind 10 steps, it is 2144 ahead of the map's end.
		if n > 10 {
			steps, burst = 11, true
		}
		want.Fuse -= steps
		want.Pos.X += int64(min(n, 10)) * api.RocketSpeed
		expectAdvance(t, open(), s, n, want, steps, burst)
	}
	expectAdvance(t, api.Map{}, s, 5, api.Shot{ID: 7, Owner: -3, Pos: s.Pos, Vel: s.Vel, Fuse: api.RocketFuse - 1}, 1, true)
	// Having burst, it bursts again if it is asked to go on.
	burst, _, _ := shot.Advance(open(), s, 100)
	again := burst
	again.Fuse--
	expectAdvance(t, open(), burst, 100, again, 1, true)
	expectAdvance(t, open(), burst, 0, burst, 0, false)
}

// plus is the sum of two numbers, cut to what has room.
func plus(a, b int64) int64 {
	sum := new(big.Int).Add(big.NewInt(a), big.NewInt(b))
	switch {
	case sum.Cmp(big.NewInt(most)) > 0:
		return most
	case sum.Cmp(big.NewInt(least)) < 0:
		return least
	}
	return sum.Int64()
}

// wantSolid asks the chapter's cell of a place, by the list itself.
func wantSolid(m api.Map, at place) bool {
	sides := place{int64(m.W), int64(m.D), int64(m.H)}
	var cell place
	for axis, n := range at {
		if n < 0 || n/one >= sides[axis] {
			return true
		}
		cell[axis] = n / one
	}
	return m.Solid[(cell[2]*sides[1]+cell[1])*sides[0]+cell[0]]
}

// wantStep is the chapter's step, in a map that is sized.
func wantStep(m api.Map, s api.Shot) (api.Shot, bool) {
	s.Fuse--
	if s.Fuse <= 0 || s.Rest {
		return s, s.Fuse <= 0
	}
	at, vel := plan.At(s.Pos), plan.At(s.Vel)
	if s.Kind == api.Rocket {
		for axis, n := range vel {
			at[axis] = plus(at[axis], n)
		}
		if wantSolid(m, at) {
			return s, true
		}
		s.Pos = at.Vec()
		return s, false
	}
	vel[2] = plus(vel[2], -1024)
	slow, down := true, false
	for axis, n := range vel {
		n = max(-32768, min(n, 32768))
		vel[axis] = n
		if to := at.With(axis, plus(at[axis], n)); !wantSolid(m, to) {
			at = to
		} else if n < 0 {
			vel[axis] = -n >> 1
			down = axis == 2
		} else {
			vel[axis] = -(n >> 1)
		}
		slow = slow && vel[axis] < 2048 && vel[axis] > -2048
	}
	if down && slow {
		s.Rest, vel = true, place{}
	}
	s.Pos, s.Vel = at.Vec(), vel.Vec()
	return s, false
}

// what tells apart what became of a shot in a step.
func what(was, s api.Shot, burst bool) string {
	switch {
	case burst && s.Fuse > 0:
		return "burst at a wall"
	case burst:
		return "burst by their Fuse"
	case was.Rest:
		return "stayed"
	case s.Rest:
		return "lay down"
	case s.Kind != api.Rocket && was.Vel.Z < 0 && s.Vel.Z > 0:
		return "bounced"
	case s.Kind != api.Rocket && was.Vel.Z > 0 && s.Vel.Z < -api.Gravity:
		return "hit the ceiling"
	case s.Kind != api.Rocket && was.Vel.X != s.Vel.X:
		return "hit a wall"
	}
	return "flew on"
}

// anyShot is a shot anywhere in a map of 5 cells or just beyond it, as fast as it may be or a bit faster.
func anyShot(seed *uint32) api.Shot {
	n := func() int64 { return (plan.Next(seed) - 1<<15) * 5 / 4 >> (plan.Next(seed) % 6) }
	at := place{}
	for axis := range at {
		at[axis] = plan.Next(seed)*6 - one/2
	}
	s := some(int(plan.Next(seed)%4), at, place{n(), n(), n()})
	s.Fuse = int(plan.Next(seed) % 90)
	return s
}

// In many maps, the long ways of many shots: none that is in no solid cell ever is, and none outlives its Fuse.
func TestManyWays(t *testing.T) {
	seed := uint32(12)
	seen := map[string]int{}
	for i := range 4000 {
		m := plan.Mixed(5, 5, 5, 7, uint32(i))
		first := anyShot(&seed)
		s, burst, steps := first, false, 0
		for !burst {
			was := s
			want, bursts := wantStep(m, s)
			if s, burst = shot.Step(m, s); s != want || burst != bursts {
				t.Fatalf("map %d, of %+v: %v,\n%+v is not %v,\n%+v", i, was, burst, s, bursts, want)
			}
			if !wantSolid(m, plan.At(was.Pos)) && wantSolid(m, plan.At(s.Pos)) {
				t.Fatalf("map %d, of %+v: %+v is in a cell", i, was, s)
			}
			steps++
			seen[what(was, s, burst)]++
			if !burst {
				expectAdvance(t, m, first, steps, s, steps, false)
			}
		}
		if steps > max(first.Fuse, 1) {
			t.Fatalf("map %d, of %+v: burst behind %d steps", i, first, steps)
		}
		expectAdvance(t, m, first, steps, s, steps, true)
		expectAdvance(t, m, first, steps+1, s, steps, true)
		parts(t, m, first, steps)
		if t.Failed() {
			t.FailNow()
		}
	}
	for _, k := range []string{"burst at a wall", "burst by their Fuse", "stayed", "lay down", "bounced", "hit the ceiling", "hit a wall", "flew on"} {
		if seen[k] < 200 {
			t.Errorf("only %d that %s", seen[k], k)
		}
	}
}

// parts holds two advances against one of all steps, wherever the second one begins.
func parts(t *testing.T, m api.Map, s api.Shot, steps int) {
	t.Helper()
	whole, _, _ := shot.Advance(m, s, steps)
	for n := range steps {
		half, did, burst := shot.Advance(m, s, n)
		if did != n || burst {
			t.Errorf("%d of %d steps of %+v: %d, %v", n, steps, s, did, burst)
		}
		expectAdvance(t, m, half, steps-n, whole, steps-n, true)
	}
}

// Nothing but its kind, its place, its speed, its Fuse and its rest makes a shot fly.
func TestOtherFieldsMeanNothing(t *testing.T) {
	m := open()
	for kind := range 3 {
		s := some(kind, middle, place{100, -100, 100})
		want, steps, burst := shot.Advance(m, s, 9)
		for _, n := range []int{0, -1, math.MaxInt, math.MinInt} {
			s.ID, s.Owner, want.ID, want.Owner = n, -1-n, n, -1-n
			expectAdvance(t, m, s, 9, want, steps, burst)
		}
	}
}
