package shot_test

import (
	"math"
	"math/big"
	"testing"

	"embrasure/api"
	"embrasure/plan"
	"embrasure/shot"
)

const (
	most  = math.MaxInt64
	least = math.MinInt64
	one   = api.One
)

// place is a vector by its axes.
type place = plan.Place

// kinds are those that there are, with what their shots begin with.
var kinds = []struct {
	kind, fuse int
	speed      int64
}{{api.Rocket, 200, 26214}, {api.Grenade, 60, 16384}}

// east is a direction that is right, so that what is wrong stands alone.
var east = place{one, 0, 0}

// made is a new shot of what is right.
func made(t *testing.T, kind int, dir place) api.Shot {
	t.Helper()
	s, err := shot.New(1, 2, kind, place{3, 4, 5}.Vec(), dir.Vec())
	if err != api.OK {
		t.Fatalf("kind %d to %v: %v", kind, dir, err)
	}
	return s
}

func refused(t *testing.T, kind int, dir place) {
	t.Helper()
	s, err := shot.New(1, 2, kind, place{3, 4, 5}.Vec(), dir.Vec())
	if err != api.ErrArg || s != (api.Shot{}) {
		t.Errorf("kind %d to %v: %+v, %v", kind, dir, s, err)
	}
}

func TestExampleOfTheChapter(t *testing.T) {
	s, err := shot.New(1, 2, api.Rocket, place{one, one, one}.Vec(), east.Vec())
	if err != api.OK {
		t.Fatal(err)
	}
	m := plan.Open(8, 2, 2)
	for n := range int64(10) {
		if want := (place{one + n*api.RocketSpeed, one, one}); plan.At(s.Pos) != want {
			t.Errorf("behind %d steps at %v, not %v", n, plan.At(s.Pos), want)
		}
		s, _ = shot.Step(m, s)
	}
}

// A new shot has what it was handed, whatever that is, and else only what its kind has.
func TestNewHasWhatItWasHanded(t *testing.T) {
	numbers := []int{0, 1, -1, 7, math.MaxInt, math.MinInt, 1 << 32}
	for i, id := range numbers {
		for j, owner := range numbers {
			for _, k := range kinds {
				pos := place{int64(numbers[(i+j)%7]), int64(numbers[(i+1)%7]), int64(numbers[(j+2)%7])}.Vec()
				want := api.Shot{ID: id, Owner: owner, Kind: k.kind, Pos: pos, Vel: api.Vec{X: k.speed}, Fuse: k.fuse}
				if got, err := shot.New(id, owner, k.kind, pos, east.Vec()); got != want || err != api.OK {
					t.Errorf("%+v, %v is not\n%+v", got, err, want)
				}
			}
		}
	}
}

func TestNewOfOtherKinds(t *testing.T) {
	for _, kind := range []int{2, 3, -1, -2, 9, 255, 256, 257, 1 << 16, 1<<32 + 1, 1 << 32, math.MaxInt, math.MinInt, math.MinInt + 1} {
		refused(t, kind, east)
		refused(t, kind, place{})
		refused(t, kind, place{one + 1, 0, 0})
	}
}

func TestNewOfAxesTooLong(t *testing.T) {
	for _, k := range kinds {
		for axis := range 3 {
			for _, n := range []int64{one, one - 1, -one, 1 - one, 1, -1} {
				made(t, k.kind, place{}.With(axis, n))
				made(t, k.kind, place{one, -one, one}.With(axis, n))
			}
			for _, n := range []int64{one + 1, -one - 1, 2 * one, -2 * one, 1 << 32, -1 << 32, 1<<32 + 1, most, most - 1, least, least + 1} {
				refused(t, k.kind, place{}.With(axis, n))
				refused(t, k.kind, place{one, -one, one}.With(axis, n))
				refused(t, k.kind, place{n, n, n})
			}
		}
	}
}

func TestNewOfNought(t *testing.T) {
	for _, k := range kinds {
		refused(t, k.kind, place{})
		// As short as a direction can be, it is one, and as fast as all others.
		for axis := range 3 {
			for _, n := range []int64{1, -1} {
				if got, want := plan.At(made(t, k.kind, place{}.With(axis, n)).Vel), (place{}).With(axis, n*k.speed); got != want {
					t.Errorf("kind %d, axis %d, %d: %v is not %v", k.kind, axis, n, got, want)
				}
			}
		}
	}
}

func TestNewDirections(t *testing.T) {
	for _, x := range []struct{ dir, rocket, grenade place }{
		{place{one, 0, 0}, place{26214, 0, 0}, place{16384, 0, 0}},
		{place{0, -one, 0}, place{0, -26214, 0}, place{0, -16384, 0}},
		{place{0, 0, one}, place{0, 0, 26214}, place{0, 0, 16384}},
		{place{3, -4, 0}, place{15728, -20971, 0}, place{9830, -13107, 0}},
		{place{-3, 0, 4}, place{-15728, 0, 20971}, place{-9830, 0, 13107}},
		// How long these are is rounded down to 1, so that each axis is as fast as one alone.
		{place{1, 1, 0}, place{26214, 26214, 0}, place{16384, 16384, 0}},
		{place{-1, 1, -1}, place{-26214, 26214, -26214}, place{-16384, 16384, -16384}},
		{place{one, one, one}, place{15134, 15134, 15134}, place{9459, 9459, 9459}},
		{place{-one, -one, -one}, place{-15134, -15134, -15134}, place{-9459, -9459, -9459}},
		// What is too slow to be one is none, up as down.
		{place{one, 1, -1}, place{26214, 0, 0}, place{16384, 0, 0}},
		{place{one, 2, -2}, place{26214, 0, 0}, place{16384, 0, 0}},
		{place{one, 3, -3}, place{26214, 1, -1}, place{16384, 0, 0}},
		{place{one, 4, -4}, place{26214, 1, -1}, place{16384, 1, -1}},
		{place{one, 7, -7}, place{26214, 2, -2}, place{16384, 1, -1}},
	} {
		for i, want := range []place{x.rocket, x.grenade} {
			if got := plan.At(made(t, kinds[i].kind, x.dir).Vel); got != want {
				t.Errorf("kind %d to %v: %v is not %v", kinds[i].kind, x.dir, got, want)
			}
		}
	}
}

// wantWay is the chapter's way of a direction, by numbers of any size.
func wantWay(dir place, speed int64) place {
	sum := new(big.Int)
	for _, n := range dir {
		sum.Add(sum, new(big.Int).Mul(big.NewInt(n), big.NewInt(n)))
	}
	long := sum.Sqrt(sum)
	for axis, n := range dir {
		dir[axis] = new(big.Int).Quo(new(big.Int).Mul(big.NewInt(n), big.NewInt(speed)), long).Int64()
	}
	return dir
}

func TestNewAgainstAModel(t *testing.T) {
	seed := uint32(12)
	for i := range 20000 {
		var dir place
		for axis := range 3 {
			dir[axis] = (plan.Next(&seed)*2 - one + 1) >> (plan.Next(&seed) % 17)
		}
		if dir == (place{}) {
			continue
		}
		for _, k := range kinds {
			if got, want := plan.At(made(t, k.kind, dir).Vel), wantWay(dir, k.speed); got != want {
				t.Fatalf("%d: kind %d to %v: %v is not %v", i, k.kind, dir, got, want)
			}
		}
	}
}
