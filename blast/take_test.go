package blast_test

import (
	"math"
	"math/big"
	"testing"

	"embrasure/api"
	"embrasure/blast"
	"embrasure/plan"
)

// with is a player that has so much Health and Armour.
func with(health, armour int) api.Player {
	p := some(middle)
	p.Health, p.Armour = health, armour
	return p
}

// expectTake holds all of a player behind a Take against what it was, but for what it has then.
func expectTake(t *testing.T, p api.Player, n, health, armour, dead int) {
	t.Helper()
	want := p
	want.Health, want.Armour, want.Dead = health, armour, dead
	for range 2 {
		if got := blast.Take(p, n); got != want {
			t.Errorf("%d of %+v:\n%+v is not\n%+v", n, p, got, want)
		}
	}
}

func TestTake(t *testing.T) {
	for _, x := range []struct{ health, armour, n, leftHealth, leftArmour, dead int }{
		// Half of it, rounded down, and the rest off its Health.
		{100, 50, 1, 99, 50, 0}, {100, 50, 2, 99, 49, 0}, {100, 50, 3, 98, 49, 0}, {100, 50, 4, 98, 48, 0}, {100, 50, 33, 83, 34, 0}, {100, 50, 99, 50, 1, 0},
		// Armour at half of it, above, and below.
		{100, 50, 100, 50, 0, 0}, {100, 50, 101, 49, 0, 0}, {100, 49, 100, 49, 0, 0}, {100, 51, 100, 50, 1, 0}, {100, 1, 100, 1, 0, 0}, {100, 1, 3, 98, 0, 0}, {100, 1, 2, 99, 0, 0}, {100, 1, 1, 99, 1, 0}, {100, 2, 3, 98, 1, 0},
		{100, 50, 102, 48, 0, 0}, {100, 50, 149, 1, 0, 0}, {100, 50, 150, 0, 0, api.Back}, {100, 50, 151, 0, 0, api.Back},
		// Without Armour all of it.
		{100, 0, 1, 99, 0, 0}, {100, 0, 2, 98, 0, 0}, {100, 0, 98, 2, 0, 0}, {100, 0, 99, 1, 0, 0}, {100, 0, 100, 0, 0, api.Back}, {100, 0, 101, 0, 0, api.Back}, {100, 0, 1000, 0, 0, api.Back},
		// Health that becomes 1, 0, and less.
		{2, 9, 1, 1, 9, 0}, {2, 9, 2, 1, 8, 0}, {2, 9, 3, 0, 8, api.Back}, {2, 9, 4, 0, 7, api.Back}, {2, 9, 5, 0, 7, api.Back}, {1, 9, 1, 0, 9, api.Back}, {1, 9, 2, 0, 8, api.Back}, {1, 0, 1, 0, 0, api.Back}, {2, 0, 1, 1, 0, 0},
		// More Health than there is to begin with.
		{300, 200, 100, 250, 150, 0}, {1 << 40, 1 << 40, 100, 1<<40 - 50, 1<<40 - 50, 0},
		// Who lives without Health is dead with the first that is taken.
		{0, 0, 1, 0, 0, api.Back}, {0, 9, 2, 0, 8, api.Back}, {-5, 9, 1, 0, 9, api.Back},
	} {
		expectTake(t, with(x.health, x.armour), x.n, x.leftHealth, x.leftArmour, x.dead)
	}
}

func TestTakeOfTheDead(t *testing.T) {
	for _, dead := range []int{1, 2, api.Back, api.Back + 1, math.MaxInt} {
		for _, health := range []int{100, 1, 0, -1, math.MinInt} {
			for _, n := range []int{1, 2, 50, 1000, 0, -1, math.MaxInt, math.MinInt} {
				p := with(health, 20)
				p.Dead = dead
				expectTake(t, p, n, health, 20, dead)
			}
		}
	}
	// Who is not above 0 lives.
	for _, dead := range []int{0, -1, -api.Back, math.MinInt} {
		p := with(100, 20)
		p.Dead = dead
		expectTake(t, p, 10, 95, 15, dead)
		expectTake(t, p, 200, 0, 0, api.Back)
	}
}

func TestTakeOfNothing(t *testing.T) {
	for _, n := range []int{0, -1, -2, -3, -100, math.MinInt, math.MinInt + 1} {
		for _, health := range []int{100, 1, 0, -1, math.MaxInt, math.MinInt} {
			for _, armour := range []int{100, 1, 0, -1, math.MaxInt, math.MinInt} {
				expectTake(t, with(health, armour), n, health, armour, 0)
			}
		}
	}
}

// An Armour below 0 is what it has at most: it is taken off itself, and its Health pays for it.
func TestTakeOfArmourBelowNought(t *testing.T) {
	for _, x := range []struct{ armour, n, health, dead int }{
		{-1, 1, 98, 0}, {-1, 2, 97, 0}, {-10, 1, 89, 0}, {-10, 50, 40, 0}, {-10, 89, 1, 0}, {-10, 90, 0, api.Back}, {-99, 1, 0, api.Back}, {-98, 1, 1, 0},
		{math.MinInt, 1, 0, api.Back}, {math.MinInt, 2, 0, api.Back}, {math.MinInt + 1, math.MaxInt, 0, api.Back},
	} {
		expectTake(t, with(100, x.armour), x.n, x.health, 0, x.dead)
	}
}

func TestTakeAtTheEndsOfNumbers(t *testing.T) {
	const half = math.MaxInt / 2
	for _, x := range []struct{ health, armour, n, leftHealth, leftArmour, dead int }{
		{100, 20, math.MaxInt, 0, 0, api.Back}, {100, math.MaxInt, math.MaxInt, 0, half + 1, api.Back}, {100, half, math.MaxInt, 0, 0, api.Back}, {100, half - 1, math.MaxInt, 0, 0, api.Back},
		{math.MaxInt, math.MaxInt, math.MaxInt, half, half + 1, 0}, {math.MaxInt, half, math.MaxInt, half, 0, 0}, {math.MaxInt, 0, math.MaxInt, 0, 0, api.Back}, {math.MaxInt, 1, math.MaxInt, 1, 0, 0}, {math.MaxInt, 0, math.MaxInt - 1, 1, 0, 0},
		{math.MaxInt, math.MaxInt, 1, math.MaxInt - 1, math.MaxInt, 0}, {math.MaxInt, 0, 2, math.MaxInt - 2, 0, 0},
		// What is below the least is not above 0.
		{math.MinInt, 0, 1, 0, 0, api.Back}, {math.MinInt, 20, 2, 0, 19, api.Back}, {math.MinInt, 20, math.MaxInt, 0, 0, api.Back}, {math.MinInt + 1, 0, math.MaxInt, 0, 0, api.Back}, {-1, 0, math.MaxInt, 0, 0, api.Back}, {-2, 0, math.MaxInt, 0, 0, api.Back},
		{math.MaxInt, math.MinInt, 1, 0, 0, api.Back}, {math.MaxInt, math.MinInt, math.MaxInt, 0, 0, api.Back}, {math.MaxInt, math.MinInt + 2, 1, 0, 0, api.Back}, {math.MaxInt, math.MinInt + 3, 1, 1, 0, 0}, {math.MinInt, math.MinInt, 1, 0, 0, api.Back},
	} {
		expectTake(t, with(x.health, x.armour), x.n, x.leftHealth, x.leftArmour, x.dead)
	}
}

// wantTake is the chapter's, by numbers of any size.
func wantTake(p api.Player, n int) api.Player {
	if p.Dead > 0 || n < 1 {
		return p
	}
	armour := min(n>>1, p.Armour)
	left := new(big.Int).Sub(big.NewInt(int64(p.Health)), big.NewInt(int64(n)))
	left.Add(left, big.NewInt(int64(armour)))
	p.Armour -= armour
	p.Health = int(left.Int64())
	if left.Sign() <= 0 {
		p.Health, p.Dead = 0, 30
	}
	return p
}

func TestTakeAgainstAModel(t *testing.T) {
	numbers := []int{0, 1, 2, 3, 29, 30, 31, 100, math.MaxInt / 2, math.MaxInt - 1, math.MaxInt}
	for _, n := range numbers {
		numbers = append(numbers, -n)
	}
	numbers = append(numbers, math.MinInt)
	for _, health := range numbers {
		for _, armour := range numbers {
			for _, n := range numbers {
				want := wantTake(with(health, armour), n)
				expectTake(t, with(health, armour), n, want.Health, want.Armour, want.Dead)
			}
		}
	}
	seed := uint32(7)
	for range 20000 {
		p, n := with(int(plan.Next(&seed)%120), int(plan.Next(&seed)%60)), int(plan.Next(&seed)%140)
		p.Dead = int(max(0, plan.Next(&seed)%20-17))
		want := wantTake(p, n)
		expectTake(t, p, n, want.Health, want.Armour, want.Dead)
	}
}

// Nothing but Health, Armour and Dead counts, and nothing else is changed.
func TestTakeOfOtherFields(t *testing.T) {
	for _, n := range []int{0, 1, -1, math.MaxInt, math.MinInt} {
		for _, is := range []bool{true, false} {
			at := place{int64(n), int64(n), int64(n)}.Vec()
			p := api.Player{ID: n, Pos: at, Vel: at, Ground: is, Health: 100, Armour: 10, Score: n, Ammo: [2]int{n, n}, Wait: n}
			expectTake(t, p, 30, 80, 0, 0)
			expectTake(t, p, 110, 0, 0, api.Back)
		}
	}
}
