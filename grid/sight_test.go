package grid_test

import (
	"testing"

	"embrasure/api"
	"embrasure/grid"
	"embrasure/plan"
)

// at is a point, in quarters of a cell, halfway up the lowest storey.
func at(x, y int64) api.Vec { return api.Vec{X: x * one / 4, Y: y * one / 4, Z: half} }

// up is a point, in quarters of a cell.
func up(x, y, z int64) api.Vec { return api.Vec{X: x * one / 4, Y: y * one / 4, Z: z * one / 4} }

type look struct {
	m    api.Map
	a, b api.Vec
	want bool
}

// check holds sights both ways.
func check(t *testing.T, l []look) {
	t.Helper()
	for i, x := range l {
		if got := grid.Sight(x.m, x.a, x.b); got != x.want {
			t.Errorf("%d: from %v to %v: %v", i, x.a, x.b, got)
		}
		if got := grid.Sight(x.m, x.b, x.a); got != x.want {
			t.Errorf("%d: from %v to %v: %v", i, x.b, x.a, got)
		}
	}
}

func TestSightAlongAnAxis(t *testing.T) {
	gap := plan.Of([]string{"...", "...", "..."}, []string{"...", ".#.", "..."}, []string{"...", "...", "..."})
	check(t, []look{
		{gap, up(2, 6, 6), up(10, 6, 6), false}, {gap, up(2, 2, 6), up(10, 2, 6), true}, {gap, up(2, 10, 6), up(10, 10, 6), true},
		{gap, up(6, 2, 6), up(6, 10, 6), false}, {gap, up(2, 2, 6), up(2, 10, 6), true}, {gap, up(10, 2, 6), up(10, 10, 6), true},
		{gap, up(6, 6, 2), up(6, 6, 10), false}, {gap, up(2, 6, 2), up(2, 6, 10), true}, {gap, up(10, 6, 2), up(10, 6, 10), true},
		// Along a wall: its beginning is of the wall, its end of the cell behind it.
		{gap, up(2, 4, 6), up(10, 4, 6), false}, {gap, up(2, 8, 6), up(10, 8, 6), true},
		{gap, up(4, 2, 6), up(4, 10, 6), false}, {gap, up(8, 2, 6), up(8, 10, 6), true},
		{gap, up(6, 4, 2), up(6, 4, 10), false}, {gap, up(6, 8, 2), up(6, 8, 10), true},
		// Along an edge.
		{gap, up(0, 4, 4), up(11, 4, 4), false}, {gap, up(0, 4, 8), up(11, 4, 8), true}, {gap, up(0, 8, 4), up(11, 8, 4), true}, {gap, up(0, 8, 8), up(11, 8, 8), true},
		{gap, up(4, 0, 4), up(4, 11, 4), false}, {gap, up(4, 0, 8), up(4, 11, 8), true}, {gap, up(8, 0, 4), up(8, 11, 4), true},
		{gap, up(4, 4, 0), up(4, 4, 11), false}, {gap, up(4, 8, 0), up(4, 8, 11), true}, {gap, up(8, 4, 0), up(8, 4, 11), true},
	})
	// One short of the wall along its axis, and just in it.
	edge := one + one
	check(t, []look{
		{plan.Of([]string{"..#"}), at(2, 2), api.Vec{X: int64(edge) - 1, Y: half, Z: half}, true},
		{plan.Of([]string{"..#"}), at(2, 2), api.Vec{X: int64(edge), Y: half, Z: half}, false},
		{plan.Of([]string{"#.."}), at(10, 2), api.Vec{X: one, Y: half, Z: half}, true},
		{plan.Of([]string{"#.."}), at(10, 2), api.Vec{X: one - 1, Y: half, Z: half}, false},
	})
}

func TestSightThroughACorner(t *testing.T) {
	flat := func(rows ...string) api.Map { return plan.Of(rows) }
	check(t, []look{
		// Both axes rise, or both fall: the corner is of the cell ahead, and nothing else is touched.
		{flat("..", ".."), at(2, 2), at(6, 6), true}, {flat(".#", "#."), at(2, 2), at(6, 6), true}, {flat("..", ".#"), at(2, 2), at(6, 6), false}, {flat("#.", ".."), at(2, 2), at(6, 6), false},
		// One rises and one falls: the corner is of the fourth cell.
		{flat("..", ".."), at(6, 2), at(2, 6), true}, {flat("#.", ".."), at(6, 2), at(2, 6), true}, {flat("..", ".#"), at(6, 2), at(2, 6), false}, {flat("#.", ".#"), at(6, 2), at(2, 6), false},
		// The corner is an end.
		{flat(".#", "#."), at(2, 2), at(4, 4), true}, {flat(".#", "#."), at(6, 6), at(4, 4), true}, {flat("..", ".#"), at(2, 2), at(4, 4), false},
		{flat("#.", ".."), at(6, 2), at(4, 4), true}, {flat("#.", ".#"), at(6, 2), at(4, 4), false}, {flat("##", "#."), at(4, 4), at(6, 6), true},
		{flat("#.", "#."), at(6, 2), at(4, 4), true}, {flat("#.", "#."), at(6, 2), at(3, 5), false}, {flat("..", "##"), at(2, 2), at(4, 3), true},
		// Not through the corner, but close by.
		{flat(".#", ".."), at(2, 3), at(7, 6), true}, {flat(".#", ".."), at(3, 2), at(6, 7), false}, {flat("..", "#."), at(3, 2), at(6, 7), true}, {flat("..", "#."), at(2, 3), at(7, 6), false},
	})
}

// Along three axes a corner is where up to three cells are met besides those of the ends: what rises has gone over, what falls has not.
func TestSightThroughACornerOfThree(t *testing.T) {
	for i, x := range []struct {
		a, b api.Vec
		meet [][3]int
	}{
		{up(2, 2, 2), up(6, 6, 6), [][3]int{{0, 0, 0}, {1, 1, 1}}},
		{up(6, 2, 2), up(2, 6, 6), [][3]int{{1, 0, 0}, {1, 1, 1}, {0, 1, 1}}},
		{up(2, 6, 2), up(6, 2, 6), [][3]int{{0, 1, 0}, {1, 1, 1}, {1, 0, 1}}},
		{up(2, 2, 6), up(6, 6, 2), [][3]int{{0, 0, 1}, {1, 1, 1}, {1, 1, 0}}},
		{up(2, 2, 2), up(6, 6, 5), [][3]int{{0, 0, 0}, {1, 1, 0}, {1, 1, 1}}},
		{up(6, 2, 2), up(2, 6, 5), [][3]int{{1, 0, 0}, {1, 1, 0}, {0, 1, 0}, {0, 1, 1}}},
		{up(4, 4, 4), up(2, 2, 2), [][3]int{{1, 1, 1}, {0, 0, 0}}},
		{up(4, 4, 4), up(2, 6, 2), [][3]int{{1, 1, 1}, {0, 1, 0}}},
		{up(4, 4, 2), up(4, 4, 6), [][3]int{{1, 1, 0}, {1, 1, 1}}},
		{up(4, 2, 2), up(4, 6, 6), [][3]int{{1, 0, 0}, {1, 1, 1}}},
		{up(4, 2, 6), up(4, 6, 2), [][3]int{{1, 0, 1}, {1, 1, 1}, {1, 1, 0}}},
	} {
		met := map[[3]int]bool{}
		for _, c := range x.meet {
			met[c] = true
		}
		for n := range 8 {
			c := [3]int{n & 1, n >> 1 & 1, n >> 2}
			if m := plan.Set(plan.Open(2, 2, 2), c[0], c[1], c[2]); grid.Sight(m, x.a, x.b) == met[c] || grid.Sight(m, x.b, x.a) == met[c] {
				t.Errorf("%d: cell %v is not met as it should be", i, c)
			}
		}
	}
}

// Some cells are met by no whole point of a line, only between them.
func TestSightBetweenWholeNumbers(t *testing.T) {
	low := func(x, y int64) api.Vec { return api.Vec{X: x, Y: y} }
	// From one cell into the one beyond the corner, over the one to the east.
	east := plan.Of([]string{".#", ".."})
	north := plan.Of([]string{"..", "#."})
	check(t, []look{
		{east, low(one-1, one-1), low(one+1, one), false},
		{north, low(one-1, one-1), low(one+1, one), true},
		{east, low(one-1, one-1), low(one, one+1), true},
		{north, low(one-1, one-1), low(one, one+1), false},
		{east, low(one-1, one-1), low(one, one), true},
		{north, low(one-1, one-1), low(one, one), true},
		// Far from end to end, and past the corner by the least that there may be.
		{plan.Of([]string{".#.", "..."}), low(0, 0), low(3*one-1, 2*one-1), false},
		{plan.Of([]string{"...", "#.."}), low(0, 0), low(3*one-1, 2*one-1), true},
		{plan.Of([]string{".#", ".."}), low(0, 0), low(2*one-1, 2*one-2), false},
		{plan.Of([]string{".#", ".."}), low(0, 0), low(2*one-2, 2*one-1), true},
		{plan.Of([]string{".#", ".."}), low(1, 0), low(2*one-1, 2*one-1), false},
		{plan.Of([]string{".#", ".."}), low(0, 1), low(2*one-1, 2*one-1), true},
	})
}

func TestSightOfEnds(t *testing.T) {
	free := plan.Open(1, 1, 1)
	wall := plan.Of([]string{".#"})
	check(t, []look{
		{free, at(1, 1), at(1, 1), true}, {free, up(0, 0, 0), up(0, 0, 0), true}, {free, api.Vec{}, api.Vec{X: one - 1, Y: one - 1, Z: one - 1}, true},
		{plan.Of([]string{"#"}), at(1, 1), at(1, 1), false}, {plan.Of([]string{"#"}), at(1, 1), at(2, 3), false},
		{wall, at(1, 1), at(6, 1), false}, {wall, at(6, 1), at(6, 1), false}, {wall, at(1, 1), at(4, 1), false},
	})
	// An end outside is solid, on whatever side, and as far away as numbers go.
	for _, n := range []int64{-1, one, one + 1, -one, 1 << 32, -1 << 32, 1 << 62, -1 << 62, most - 1, most, least, least + 1} {
		for _, b := range []api.Vec{{X: n}, {Y: n}, {Z: n}, {X: n, Y: n}, {Y: n, Z: n}, {X: n, Y: n, Z: n}} {
			check(t, []look{{free, api.Vec{}, b, false}, {free, at(2, 2), b, false}, {free, b, b, false}})
		}
	}
	// Both ends outside, the map between them or not.
	check(t, []look{
		{free, api.Vec{X: least, Y: half, Z: half}, api.Vec{X: most, Y: half, Z: half}, false},
		{free, api.Vec{X: least, Y: least, Z: least}, api.Vec{X: most, Y: most, Z: most}, false},
		{free, api.Vec{X: most, Y: most, Z: most}, api.Vec{X: most, Y: least, Z: most}, false},
		{free, api.Vec{X: -1, Y: half, Z: half}, api.Vec{X: one, Y: half, Z: half}, false},
	})
}

func TestSightOfMapsThatAreNotSized(t *testing.T) {
	for i, m := range plan.Unsized() {
		if grid.Sight(m, api.Vec{}, api.Vec{}) || grid.Sight(m, room, api.Vec{X: 1}) || grid.Sight(m, api.Vec{X: least}, api.Vec{X: most}) {
			t.Errorf("%d, of %d by %d by %d and %d cells", i, m.W, m.D, m.H, len(m.Solid))
		}
	}
}

// In a map of one free cell all see all within it.
func TestSightInOneCell(t *testing.T) {
	free := plan.Open(1, 1, 1)
	seed := uint32(1)
	for range 1000 {
		a, b := api.Vec{X: plan.Next(&seed), Y: plan.Next(&seed), Z: plan.Next(&seed)}, api.Vec{X: plan.Next(&seed), Y: plan.Next(&seed), Z: plan.Next(&seed)}
		if !grid.Sight(free, a, b) {
			t.Fatalf("from %v to %v", a, b)
		}
	}
}

// part is an end of a part of a line: over divided by by of the way, with that point or without it.
type part struct {
	over, by int64
	with     bool
}

// empty tells whether nothing is from lo to hi.
func empty(lo, hi part) bool {
	l, h := lo.over*hi.by, hi.over*lo.by
	return l > h || l == h && !(lo.with && hi.with)
}

// inside is the part of the way in which one axis is in a cell; false, if there is none.
func inside(from, to int64, cell int) (lo, hi part, is bool) {
	begin, end := int64(cell)*one, int64(cell+1)*one
	switch {
	case to > from:
		return part{begin - from, to - from, true}, part{end - from, to - from, false}, true
	case to < from:
		return part{from - end, from - to, false}, part{from - begin, from - to, true}, true
	}
	return part{0, 1, true}, part{1, 1, true}, from >= begin && from < end
}

// meets tells whether a point of the line lies in a cell: whether there is a part of the way in which all axes are in it.
func meets(a, b api.Vec, x, y, z int) bool {
	los, his := []part{{0, 1, true}}, []part{{1, 1, true}}
	for _, axis := range []struct {
		from, to int64
		cell     int
	}{{a.X, b.X, x}, {a.Y, b.Y, y}, {a.Z, b.Z, z}} {
		lo, hi, is := inside(axis.from, axis.to, axis.cell)
		if !is {
			return false
		}
		los, his = append(los, lo), append(his, hi)
	}
	for _, lo := range los {
		for _, hi := range his {
			if empty(lo, hi) {
				return false
			}
		}
	}
	return true
}

// wantSight goes through all cells of a map; of cells outside it is enough to ask at the ends.
func wantSight(m api.Map, a, b api.Vec) bool {
	for _, end := range []api.Vec{a, b} {
		if grid.Solid(m, int(end.X>>16), int(end.Y>>16), int(end.Z>>16)) {
			return false
		}
	}
	for i, solid := range m.Solid {
		if solid && meets(a, b, i%m.W, i/m.W%m.D, i/m.W/m.D) {
			return false
		}
	}
	return true
}

// Each cell in turn is the one that is solid, for all lines between points of few sorts: corners, edges, and what lies right beside them.
func TestSightOfCorners(t *testing.T) {
	var points []api.Vec
	axis := []int64{0, half, one - 1, one, one + 1, 2*one - 1}
	for _, x := range axis {
		for _, y := range axis {
			for _, z := range axis {
				points = append(points, api.Vec{X: x, Y: y, Z: z})
			}
		}
	}
	var alone [8]api.Map
	for i := range alone {
		alone[i] = plan.Open(2, 2, 2)
		alone[i].Solid[i] = true
	}
	for _, a := range points {
		for _, b := range points {
			for i, m := range alone {
				want := !meets(a, b, i%2, i/2%2, i/4)
				if got := grid.Sight(m, a, b); got != want {
					t.Fatalf("cell %d: from %v to %v: %v", i, a, b, got)
				}
			}
		}
	}
}

func checkMany(t *testing.T, count, w, d, h int, point func(seed *uint32) api.Vec) {
	t.Helper()
	seed := uint32(w + 100*d + 10000*h)
	seen := [2]int{}
	for i := range count {
		m := plan.Mixed(w, d, h, 4, uint32(i/100))
		a, b := point(&seed), point(&seed)
		want := wantSight(m, a, b)
		if got := grid.Sight(m, a, b); got != want {
			t.Fatalf("map %d, from %v to %v: %v", i/100, a, b, got)
		}
		if grid.Sight(m, b, a) != want {
			t.Fatalf("map %d: from %v to %v is seen one way only", i/100, a, b)
		}
		if want {
			seen[1]++
		} else {
			seen[0]++
		}
	}
	if seen[0] < count/50 || seen[1] < count/50 {
		t.Errorf("only %v lines of both sorts", seen)
	}
}

// In quarters many lines go through corners, and end on them.
func TestSightOfQuarters(t *testing.T) {
	checkMany(t, 60000, 4, 3, 2, func(seed *uint32) api.Vec { return up(plan.Next(seed)%18-1, plan.Next(seed)%14-1, plan.Next(seed)%9) })
}

func TestSightOfAllPoints(t *testing.T) {
	side := func(seed *uint32, n int64) int64 { return plan.Next(seed)%n*one + plan.Next(seed) }
	checkMany(t, 40000, 4, 3, 3, func(seed *uint32) api.Vec {
		return api.Vec{X: side(seed, 4), Y: side(seed, 3), Z: side(seed, 3)}
	})
}

// From side to side of the greatest map there is, numbers are as great as they get.
func TestSightOfTheGreatestMap(t *testing.T) {
	end := int64(api.MaxSide*one - 1)
	m := plan.Open(api.MaxSide, api.MaxSide, api.MaxSide)
	ends := []api.Vec{{}, {X: end}, {Y: end}, {Z: end}, {X: end, Y: end}, {X: end, Z: end}, {Y: end, Z: end}, {X: end, Y: end, Z: end}}
	for _, a := range ends {
		for _, b := range ends {
			if !grid.Sight(m, a, b) {
				t.Errorf("from %v to %v", a, b)
			}
		}
	}
	seed := uint32(3)
	hit := 0
	for range 3000 {
		a := api.Vec{X: plan.Next(&seed) * 31, Y: plan.Next(&seed) * 31, Z: plan.Next(&seed) * 31}
		b := api.Vec{X: plan.Next(&seed) * 31, Y: plan.Next(&seed) * 31, Z: plan.Next(&seed) * 31}
		share := plan.Next(&seed)
		// beside is the cell of a point of the line, or one beside it.
		beside := func(from, to int64) int {
			return max(int((from+(to-from)*share/one)/one+plan.Next(&seed)%2-plan.Next(&seed)%2), 0)
		}
		walled := plan.Set(m, beside(a.X, b.X), beside(a.Y, b.Y), beside(a.Z, b.Z))
		want := wantSight(walled, a, b)
		if grid.Sight(walled, a, b) != want || grid.Sight(walled, b, a) != want {
			t.Fatalf("from %v to %v: not %v", a, b, want)
		}
		if !want {
			hit++
		}
	}
	if hit < 300 || hit > 2700 {
		t.Errorf("%d of 3000 lines hit", hit)
	}
}
