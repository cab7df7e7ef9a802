package blast_test

import (
	"math"
	"math/big"
	"reflect"
	"slices"
	"testing"

	"embrasure/api"
	"embrasure/blast"
	"embrasure/grid"
	"embrasure/plan"
)

const (
	most  = math.MaxInt64
	least = math.MinInt64
	one   = api.One
)

// place is a vector by its axes.
type place = plan.Place

// middle is that of a map of 9 cells each way, in which a burst reaches no end of it.
var middle = place{9 * one / 2, 9 * one / 2, 9 * one / 2}

func open() api.Map { return plan.Open(9, 9, 9) }

// some is a player that lives, whose other fields all are something, so that it shows if one does not stay.
func some(at place) api.Player {
	return api.Player{ID: 7, Pos: at.Vec(), Vel: api.Vec{X: 1, Y: -2, Z: 3}, Ground: true, Health: 90, Armour: 20, Score: 5, Ammo: [2]int{4, 6}, Wait: 8}
}

func expectHurt(t *testing.T, m api.Map, at place, p api.Player, want int) {
	t.Helper()
	for range 2 {
		if got := blast.Hurt(m, at.Vec(), p); got != want {
			t.Errorf("from %v, %+v: %d, not %d", at, p, got, want)
		}
	}
}

func TestExampleOfTheChapter(t *testing.T) {
	m := plan.Open(12, 1, 1)
	expectHurt(t, m, place{one, 0, 0}, some(place{one + 3*api.Radius/2, 0, 0}), 0)
}

// distances are how far a player is, and what a burst takes from it then.
var distances = []struct {
	far  int64
	want int
}{
	{0, 100}, {1, 99}, {2, 99}, {1965, 99}, {1966, 99}, {1967, 98}, {one / 2, 83}, {one - 1, 66}, {one, 66}, {one + 1, 66}, {3 * one / 2, 50}, {3*one/2 + 1, 49},
	{2*one - 1, 33}, {2 * one, 33}, {2*one + 1, 33}, {2*one + 655, 33}, {2*one + 656, 32}, {194641, 1}, {194642, 0}, {3*one - 2, 0}, {3*one - 1, 0}, {3 * one, 0}, {3*one + 1, 0}, {4 * one, 0}, {9 * one / 2, 0},
}

func TestHurtByDistance(t *testing.T) {
	m := open()
	for _, x := range distances {
		for axis := range 3 {
			for _, far := range []int64{x.far, -x.far} {
				to := middle.With(axis, max(0, min(middle[axis]+far, 9*one-1)))
				expectHurt(t, m, middle, some(to), x.want)
				expectHurt(t, m, to, some(middle), x.want)
			}
		}
	}
}

// How far it is goes straight, not axis by axis, and is rounded down.
func TestHurtAskew(t *testing.T) {
	m := open()
	for _, x := range []struct {
		by   place
		want int
	}{
		{place{1, 1, 0}, 99}, {place{1, 1, 1}, 99}, {place{1966, 62, 0}, 99}, {place{1966, 62, 9}, 99}, {place{1966, 62, 10}, 98}, {place{1966, 63, 0}, 98},
		{place{one, one, one}, 42}, {place{2 * one, 2 * one, one}, 0}, {place{2*one - 1, 2 * one, one}, 0}, {place{2 * one, 2 * one, 0}, 5}, {place{3 * one / 2, 2 * one, 0}, 16},
		{place{3*one - 1, one, 0}, 0}, {place{2 * one, 0, 2*one + 1}, 5}, {place{0, 9 * one / 5, 12 * one / 5}, 0}, {place{0, 9*one/5 - 2000, 12 * one / 5}, 0}, {place{0, 9*one/5 - 4000, 12 * one / 5}, 1},
	} {
		for signs := range 8 {
			at := middle
			for axis, n := range x.by {
				if signs>>axis&1 == 1 {
					n = -n
				}
				at[axis] += n
			}
			expectHurt(t, m, middle, some(at), x.want)
			expectHurt(t, m, at, some(middle), x.want)
		}
	}
}

func TestHurtOfTheDead(t *testing.T) {
	m := open()
	for _, x := range distances {
		p := some(middle.With(0, min(middle[0]+x.far, 9*one-1)))
		for _, n := range []int{1, 2, api.Back, 1 << 32, math.MaxInt} {
			p.Dead = n
			expectHurt(t, m, middle, p, 0)
		}
		// Who is not above 0 is not dead.
		for _, n := range []int{0, -1, -api.Back, math.MinInt} {
			p.Dead = n
			expectHurt(t, m, middle, p, x.want)
		}
	}
}

func TestHurtBehindAWall(t *testing.T) {
	m := plan.Of([]string{
		".....",
		"..#..",
		".....",
	})
	at := func(x, y int64) place { return place{x, y, one / 2} }
	west := at(3*one/2, 3*one/2)
	expectHurt(t, m, west, some(at(7*one/2, 3*one/2)), 0)
	expectHurt(t, m, at(7*one/2, 3*one/2), some(west), 0)
	expectHurt(t, m, west, some(at(2*one-1, 3*one/2)), 83)
	// The wall's own place is in it, and its far side is not.
	expectHurt(t, m, west, some(at(2*one, 3*one/2)), 0)
	expectHurt(t, m, at(5*one/2, 3*one/2), some(at(5*one/2, 3*one/2)), 0)
	expectHurt(t, m, at(5*one/2, 3*one/2), some(west), 0)
	expectHurt(t, m, at(3*one, 3*one/2), some(at(7*one/2, 3*one/2)), 83)
	expectHurt(t, m, at(3*one-1, 3*one/2), some(at(7*one/2, 3*one/2)), 0)
	// Past the wall's corner one is seen again.
	expectHurt(t, m, at(3*one/2, one-1), some(at(7*one/2, one-1)), 33)
	expectHurt(t, m, at(3*one/2, one), some(at(7*one/2, one)), 0)
	expectHurt(t, m, at(3*one/2, 2*one-1), some(at(7*one/2, 2*one-1)), 0)
	expectHurt(t, m, at(3*one/2, 2*one), some(at(7*one/2, 2*one)), 33)
	// What else is solid does not matter.
	expectHurt(t, plan.Set(m, 0, 0, 0), at(3*one/2, one/2), some(at(3*one/2, one/2)), 100)
}

// Beyond the map all is solid, for a burst as for a player.
func TestHurtBeyondTheMap(t *testing.T) {
	m := open()
	for axis := range 3 {
		for _, n := range []int64{-1, 9 * one, 9*one + 1, -one, most, most - 1, least, least + 1, 1 << 32, -1 << 32} {
			out := middle.With(axis, n)
			expectHurt(t, m, out, some(out), 0)
			expectHurt(t, m, out, some(middle), 0)
			expectHurt(t, m, middle, some(out), 0)
			expectHurt(t, m, out, some(middle.With(axis, max(0, min(n, 9*one-1)))), 0)
			expectHurt(t, m, middle.With(axis, max(0, min(n, 9*one-1))), some(out), 0)
		}
		for _, n := range []int64{0, 9*one - 1} {
			expectHurt(t, m, middle.With(axis, n), some(middle.With(axis, n)), 100)
		}
	}
}

// At the ends of 64 bits what is far does not come round to what is near.
func TestHurtAtTheEndsOfNumbers(t *testing.T) {
	ends := []int64{most, least, most - one, least + one, one}
	for _, x := range ends {
		for _, y := range ends {
			for _, z := range ends {
				for _, n := range ends {
					a, b := place{x, y, z}, place{n, n, n}
					want := 0
					if a == b && n == one {
						want = 100
					}
					expectHurt(t, open(), a, some(b), want)
					expectHurt(t, open(), b, some(a), want)
				}
			}
		}
	}
}

func TestHurtInNoMap(t *testing.T) {
	for _, m := range plan.Unsized() {
		for _, at := range []place{{}, {one, one, one}, {-1, -1, -1}, middle, {most, most, most}, {least, least, least}} {
			expectHurt(t, m, at, some(at), 0)
			expectHurt(t, m, at, some(place{}), 0)
		}
	}
}

// Nothing but where it is, and whether it lives, counts.
func TestHurtOfOtherFields(t *testing.T) {
	for _, n := range []int{0, 1, -1, math.MaxInt, math.MinInt} {
		for _, is := range []bool{true, false} {
			p := api.Player{ID: n, Pos: middle.With(0, middle[0]+one).Vec(), Vel: api.Vec{X: int64(n), Y: int64(n), Z: int64(n)}, Ground: is, Health: n, Armour: n, Score: n, Ammo: [2]int{n, n}, Wait: n}
			expectHurt(t, open(), middle, p, 66)
		}
	}
}

// wantHurt is the chapter's, by numbers of any size.
func wantHurt(m api.Map, at place, p api.Player) int {
	sum := new(big.Int)
	for axis, n := range plan.At(p.Pos) {
		by := new(big.Int).Sub(big.NewInt(n), big.NewInt(at[axis]))
		sum.Add(sum, by.Mul(by, by))
	}
	far := sum.Sqrt(sum)
	if p.Dead > 0 || far.Cmp(big.NewInt(3*one)) >= 0 || !grid.Sight(m, at.Vec(), p.Pos) {
		return 0
	}
	return int(100 * (3*one - far.Int64()) / (3 * one))
}

// anyPlace is one in a map of 5 cells each way, or just beyond it.
func anyPlace(seed *uint32) place {
	var at place
	for axis := range at {
		at[axis] = plan.Next(seed)*21/4 - one/8
	}
	return at
}

func TestHurtAgainstAModel(t *testing.T) {
	seed := uint32(13)
	hurt, unseen, far := 0, 0, 0
	for i := range 20000 {
		m := plan.Mixed(5, 5, 5, 9, uint32(i))
		at, p := anyPlace(&seed), some(anyPlace(&seed))
		want := wantHurt(m, at, p)
		expectHurt(t, m, at, p, want)
		switch {
		case want > 0:
			hurt++
		case grid.Sight(m, at.Vec(), p.Pos):
			far++
		default:
			unseen++
		}
		// Whoever is hurt is hurt as much from there.
		expectHurt(t, m, plan.At(p.Pos), some(at), want)
	}
	if hurt < 2000 || unseen < 2000 || far < 200 {
		t.Errorf("%d hurt, %d unseen, %d too far", hurt, unseen, far)
	}
}

// Whoever is nearer is not hurt less, if both are seen.
func TestNearerIsNotHurtLess(t *testing.T) {
	seed := uint32(31)
	m := plan.Mixed(5, 5, 5, 20, 4)
	pairs := 0
	for range 40000 {
		at, near, far := anyPlace(&seed), anyPlace(&seed), anyPlace(&seed)
		if square(at, near) > square(at, far) {
			near, far = far, near
		}
		if !grid.Sight(m, at.Vec(), near.Vec()) || !grid.Sight(m, at.Vec(), far.Vec()) {
			continue
		}
		more, less := blast.Hurt(m, at.Vec(), some(near)), blast.Hurt(m, at.Vec(), some(far))
		if more < less {
			t.Fatalf("from %v: %v has %d, %v has %d", at, near, more, far, less)
		}
		if less > 0 {
			pairs++
		}
	}
	if pairs < 1000 {
		t.Errorf("only %d pairs that are hurt", pairs)
	}
}

// square is that of how far two places of a map are from each other.
func square(a, b place) int64 {
	sum := int64(0)
	for axis := range a {
		sum += (a[axis] - b[axis]) * (a[axis] - b[axis])
	}
	return sum
}

// leavesTheMap does something a hundred times, with a map that must stay as it is.
func leavesTheMap(t *testing.T, do func(m api.Map, seed *uint32)) {
	t.Helper()
	m := plan.Mixed(5, 5, 5, 9, 1)
	m.Spawns = []api.Vec{middle.Vec(), {}}
	was := m
	was.Solid, was.Spawns = slices.Clone(m.Solid), slices.Clone(m.Spawns)
	seed := uint32(5)
	for range 100 {
		do(m, &seed)
	}
	if !reflect.DeepEqual(m, was) {
		t.Error("the map has changed")
	}
}

func TestHurtLeavesTheMap(t *testing.T) {
	leavesTheMap(t, func(m api.Map, seed *uint32) {
		blast.Hurt(m, anyPlace(seed).Vec(), some(anyPlace(seed)))
	})
}

// A map that is written over is another one: nothing of what it was is kept.
func TestHurtKeepsNothing(t *testing.T) {
	m := open()
	expectHurt(t, m, middle, some(middle), 100)
	for i := range m.Solid {
		m.Solid[i] = true
	}
	expectHurt(t, m, middle, some(middle), 0)
}
