package blast_test

import (
	"math"
	"slices"
	"testing"

	"embrasure/api"
	"embrasure/blast"
	"embrasure/plan"
)

// eastward is a player of this ID so many cells to the east of the middle, without Armour.
func eastward(id int, cells int64, health, score int) api.Player {
	p := some(middle.With(0, middle[0]+cells*one))
	p.ID, p.Health, p.Armour, p.Score = id, health, 0, score
	return p
}

// then is a player that has so much Health and that Score behind a burst; it has died, if it lived without Health.
func then(p api.Player, health, score int) api.Player {
	p.Health, p.Score = health, score
	if health == 0 && p.Dead <= 0 {
		p.Dead = api.Back
	}
	return p
}

// expectBurst is one in the middle of an open map.
func expectBurst(t *testing.T, owner int, l, want []api.Player) {
	t.Helper()
	was := slices.Clone(l)
	for range 2 {
		got := blast.Burst(open(), middle.Vec(), owner, l)
		if !slices.Equal(got, want) {
			t.Errorf("of %d, %+v:\n%+v is not\n%+v", owner, was, got, want)
		}
		if !slices.Equal(l, was) {
			t.Fatalf("of %d: %+v was\n%+v", owner, l, was)
		}
		// The answer is the caller's, who may write over it.
		for i := range got {
			got[i] = api.Player{}
		}
	}
}

func TestBurstOfNobody(t *testing.T) {
	for _, m := range []api.Map{open(), {}} {
		for _, l := range [][]api.Player{nil, {}} {
			if got := blast.Burst(m, middle.Vec(), 1, l); len(got) != 0 {
				t.Errorf("%+v", got)
			}
		}
	}
}

func TestBurstOfOne(t *testing.T) {
	for _, x := range []struct {
		cells                  int64
		health, left, one, own int
	}{
		{0, 101, 1, 5, 5}, {0, 100, 0, 6, 4}, {0, 99, 0, 6, 4}, {1, 67, 1, 5, 5}, {1, 66, 0, 6, 4}, {2, 34, 1, 5, 5}, {2, 33, 0, 6, 4}, {3, 1, 1, 5, 5}, {4, 1, 1, 5, 5},
	} {
		p := eastward(2, x.cells, x.health, 5)
		// The owner is not there to have a point of it.
		expectBurst(t, 1, []api.Player{p}, []api.Player{then(p, x.left, 5)})
		expectBurst(t, 2, []api.Player{p}, []api.Player{then(p, x.left, x.own)})
		// It is there, too far to be hurt.
		owner := eastward(1, 4, 80, 5)
		expectBurst(t, 1, []api.Player{p, owner}, []api.Player{then(p, x.left, 5), then(owner, 80, x.one)})
		expectBurst(t, 1, []api.Player{owner, p}, []api.Player{then(owner, 80, x.one), then(p, x.left, 5)})
	}
}

// Each is hurt by how far it is alone, and by its own Armour.
func TestBurstOfMany(t *testing.T) {
	l := []api.Player{eastward(9, 2, 90, 1), eastward(1, 0, 101, -2), eastward(5, 1, 66, 3), eastward(3, 3, 1, -4), eastward(4, 1, 90, 5), eastward(8, 0, 100, 6), eastward(2, 2, 40, 7)}
	l[4].Armour, l[6].Armour = 50, 3
	want := []api.Player{then(l[0], 57, 1), then(l[1], 1, -2), then(l[2], 0, 3), then(l[3], 1, -4), then(l[4], 57, 5), then(l[5], 0, 6), then(l[6], 10, 7)}
	want[4].Armour, want[6].Armour = 17, 0
	expectBurst(t, 77, l, want)
	for i, p := range l {
		scored := slices.Clone(want)
		scored[i].Score += 2
		if want[i].Dead > 0 {
			scored[i].Score -= 2
		}
		expectBurst(t, p.ID, l, scored)
	}
}

// Whoever hits others has one more for each; whoever hits itself has one less.
func TestScores(t *testing.T) {
	other := func(id int) api.Player { return eastward(id, 0, 50, id) }
	hit := func(id int) api.Player { return then(other(id), 0, id) }
	safe := eastward(1, 4, 50, 10)
	self := eastward(1, 0, 50, 10)
	for _, x := range []struct{ l, want []api.Player }{
		{[]api.Player{safe}, []api.Player{safe}},
		{[]api.Player{self}, []api.Player{then(self, 0, 9)}},
		{[]api.Player{safe, other(2)}, []api.Player{then(safe, 50, 11), hit(2)}},
		{[]api.Player{other(2), safe, other(3)}, []api.Player{hit(2), then(safe, 50, 12), hit(3)}},
		{[]api.Player{other(2), other(3), other(4), safe}, []api.Player{hit(2), hit(3), hit(4), then(safe, 50, 13)}},
		{[]api.Player{self, other(2)}, []api.Player{then(self, 0, 10), hit(2)}},
		{[]api.Player{other(2), self}, []api.Player{hit(2), then(self, 0, 10)}},
		{[]api.Player{other(2), self, other(3)}, []api.Player{hit(2), then(self, 0, 11), hit(3)}},
		{[]api.Player{other(2), other(3)}, []api.Player{hit(2), hit(3)}},
		// Others of one ID count each by itself.
		{[]api.Player{other(2), safe, other(2)}, []api.Player{hit(2), then(safe, 50, 12), hit(2)}},
	} {
		expectBurst(t, 1, x.l, x.want)
	}
}

// All that have the owner's ID have all its points, and one less for each of them that it has hit.
func TestOwnerMoreThanOnce(t *testing.T) {
	safe, self, other := eastward(1, 4, 50, 10), eastward(1, 0, 50, -10), eastward(2, 0, 50, 3)
	for _, x := range []struct{ l, want []api.Player }{
		{[]api.Player{safe, safe}, []api.Player{safe, safe}},
		{[]api.Player{safe, other, safe}, []api.Player{then(safe, 50, 11), then(other, 0, 3), then(safe, 50, 11)}},
		{[]api.Player{safe, self}, []api.Player{then(safe, 50, 9), then(self, 0, -11)}},
		{[]api.Player{self, self, self}, []api.Player{then(self, 0, -13), then(self, 0, -13), then(self, 0, -13)}},
		{[]api.Player{self, other, safe, self}, []api.Player{then(self, 0, -11), then(other, 0, 3), then(safe, 50, 9), then(self, 0, -11)}},
		{[]api.Player{other, self, other, safe, other}, []api.Player{then(other, 0, 3), then(self, 0, -8), then(other, 0, 3), then(safe, 50, 12), then(other, 0, 3)}},
	} {
		expectBurst(t, 1, x.l, x.want)
	}
}

// Who was dead before stays as it is, and brings nobody a point; but its own burst may bring it some.
func TestBurstOfTheDead(t *testing.T) {
	for _, dead := range []int{1, 7, api.Back, math.MaxInt} {
		for _, health := range []int{0, 50, -1} {
			gone := eastward(2, 0, health, 3)
			gone.Dead = dead
			owner := eastward(1, 4, 50, 10)
			other := eastward(3, 1, 9, 8)
			expectBurst(t, 1, []api.Player{gone, owner}, []api.Player{gone, owner})
			expectBurst(t, 1, []api.Player{gone, other, owner}, []api.Player{gone, then(other, 0, 8), then(owner, 50, 11)})
			expectBurst(t, 2, []api.Player{gone}, []api.Player{gone})
			expectBurst(t, 2, []api.Player{gone, other}, []api.Player{then(gone, health, 4), then(other, 0, 8)})
		}
	}
	// Who is below 0 lived, and is dead then.
	for _, dead := range []int{-1, math.MinInt} {
		odd, owner := eastward(2, 0, 50, 3), eastward(1, 4, 50, 10)
		odd.Dead = dead
		expectBurst(t, 1, []api.Player{odd, owner}, []api.Player{then(odd, 0, 3), then(owner, 50, 11)})
		expectBurst(t, 2, []api.Player{odd}, []api.Player{then(odd, 0, 2)})
	}
}

// Who lives without Health is dead if it is hurt at all, and lives on if not.
func TestBurstOfThoseWithoutHealth(t *testing.T) {
	owner := eastward(1, 4, 50, 10)
	for _, health := range []int{0, -1, math.MinInt} {
		near, far := eastward(2, 2, health, 3), eastward(3, 3, health, 4)
		expectBurst(t, 1, []api.Player{near, far, owner}, []api.Player{then(near, 0, 3), far, then(owner, 50, 11)})
	}
}

// Any number may be an ID, or the owner's.
func TestOwners(t *testing.T) {
	numbers := []int{0, 1, -1, 7, 1 << 32, math.MaxInt, math.MinInt}
	for _, id := range numbers {
		for _, owner := range numbers {
			hit, safe := eastward(id, 0, 50, 10), eastward(owner, 4, 50, 20)
			scored := 21
			left := 10
			if id == owner {
				scored, left = 19, 9
			}
			expectBurst(t, owner, []api.Player{hit, safe}, []api.Player{then(hit, 0, left), then(safe, 50, scored)})
		}
	}
}

// A Score that has no room for one more stays at the end; what it gets and what it loses in one burst are one number.
func TestScoresAtTheEndsOfNumbers(t *testing.T) {
	for _, x := range []struct{ score, others, selves, want int }{
		{math.MaxInt, 1, 0, math.MaxInt}, {math.MaxInt, 2, 0, math.MaxInt}, {math.MaxInt - 1, 1, 0, math.MaxInt}, {math.MaxInt - 1, 2, 0, math.MaxInt}, {math.MaxInt - 2, 1, 0, math.MaxInt - 1},
		{math.MaxInt, 0, 1, math.MaxInt - 1}, {math.MaxInt, 1, 1, math.MaxInt}, {math.MaxInt, 2, 1, math.MaxInt}, {math.MaxInt - 1, 2, 1, math.MaxInt}, {math.MaxInt, 3, 4, math.MaxInt - 1},
		{math.MinInt, 0, 1, math.MinInt}, {math.MinInt, 0, 2, math.MinInt}, {math.MinInt + 1, 0, 1, math.MinInt}, {math.MinInt + 1, 0, 2, math.MinInt}, {math.MinInt + 2, 0, 1, math.MinInt + 1},
		{math.MinInt, 1, 0, math.MinInt + 1}, {math.MinInt, 1, 1, math.MinInt}, {math.MinInt, 1, 2, math.MinInt}, {math.MinInt + 1, 1, 2, math.MinInt}, {math.MinInt, 4, 3, math.MinInt + 1},
		{-1, 1, 0, 0}, {0, 0, 1, -1}, {0, 0, 0, 0}, {math.MaxInt, 0, 0, math.MaxInt}, {math.MinInt, 0, 0, math.MinInt},
	} {
		var l, want []api.Player
		add := func(p api.Player, health, score int) {
			l, want = append(l, p), append(want, then(p, health, score))
		}
		for range x.selves {
			add(eastward(1, 0, 50, x.score), 0, x.want)
		}
		for range x.others {
			add(eastward(2, 0, 50, x.score), 0, x.score)
		}
		add(eastward(1, 4, 50, x.score), 50, x.want)
		expectBurst(t, 1, l, want)
		slices.Reverse(l)
		slices.Reverse(want)
		expectBurst(t, 1, l, want)
	}
}

// Behind a wall, beyond the map, and in none, nobody is hurt.
func TestBurstOfTheUnseen(t *testing.T) {
	l := []api.Player{eastward(1, 2, 5, 1), eastward(2, -2, 5, 2), eastward(3, 0, 5, 3)}
	same := func(m api.Map, at place) {
		t.Helper()
		if got := blast.Burst(m, at.Vec(), 1, l); !slices.Equal(got, l) {
			t.Errorf("%+v is not\n%+v", got, l)
		}
	}
	for _, m := range plan.Unsized() {
		same(m, middle)
	}
	for _, n := range []int64{-1, 9 * one, most, least} {
		same(open(), middle.With(2, n))
	}
	same(plan.Set(open(), 4, 4, 4), middle)
	walled := plan.Set(open(), 5, 4, 4)
	want := []api.Player{l[0], then(l[1], 0, 2), then(l[2], 0, 3)}
	want[0].Score += 2
	if got := blast.Burst(walled, middle.Vec(), 1, l); !slices.Equal(got, want) {
		t.Errorf("%+v is not\n%+v", got, want)
	}
}

// wantBurst is the chapter's, by the models of what it stands on.
func wantBurst(m api.Map, at place, owner int, l []api.Player) []api.Player {
	var out []api.Player
	for _, p := range l {
		out = append(out, wantTake(p, wantHurt(m, at, p)))
	}
	for i := range out {
		if l[i].Dead > 0 || out[i].Dead <= 0 {
			continue
		}
		by := 1
		if l[i].ID == owner {
			by = -1
		}
		for j := range out {
			if out[j].ID == owner {
				out[j].Score += by
			}
		}
	}
	return out
}

func TestBurstAgainstAModel(t *testing.T) {
	seed := uint32(29)
	died := map[int]int{}
	for i := range 4000 {
		m := plan.Mixed(5, 5, 5, 30, uint32(i))
		at := place{}
		for axis := range at {
			at[axis] = one + plan.Next(&seed)*3
		}
		var l []api.Player
		for range plan.Next(&seed) % 9 {
			p := with(int(plan.Next(&seed)%60), int(plan.Next(&seed)%40))
			p.ID, p.Dead = int(plan.Next(&seed)%4), int(max(0, plan.Next(&seed)%20-17))
			p.Score = int(plan.Next(&seed)) - 1<<15
			var pos place
			for axis, n := range at {
				pos[axis] = n + plan.Next(&seed)*3 - 3*one/2
			}
			p.Pos = pos.Vec()
			l = append(l, p)
		}
		was := slices.Clone(l)
		got, want := blast.Burst(m, at.Vec(), 2, l), wantBurst(m, at, 2, l)
		if !slices.Equal(got, want) || !slices.Equal(l, was) {
			t.Fatalf("from %v, %+v:\n%+v is not\n%+v", at, was, got, want)
		}
		n := 0
		for j := range got {
			if got[j].Dead > was[j].Dead {
				n++
			}
		}
		died[n]++
	}
	for n := range 4 {
		if died[n] < 100 {
			t.Errorf("only %d bursts with %d dead", died[n], n)
		}
	}
}

func TestBurstLeavesTheMap(t *testing.T) {
	leavesTheMap(t, func(m api.Map, seed *uint32) {
		blast.Burst(m, anyPlace(seed).Vec(), 7, []api.Player{some(anyPlace(seed)), some(anyPlace(seed))})
	})
}

// What lies behind the end of the list that is handed in is not written to.
func TestBurstLeavesWhatIsBehind(t *testing.T) {
	room := []api.Player{eastward(1, 0, 50, 1), eastward(1, 4, 50, 2), eastward(9, 0, 50, 3)}
	was := slices.Clone(room)
	blast.Burst(open(), middle.Vec(), 1, room[:2])
	if !slices.Equal(room, was) {
		t.Errorf("%+v was\n%+v", room, was)
	}
}
