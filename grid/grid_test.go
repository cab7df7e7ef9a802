package grid_test

import (
	"math"
	"reflect"
	"slices"
	"testing"

	"embrasure/api"
	"embrasure/grid"
	"embrasure/plan"
)

const (
	most  = math.MaxInt64
	least = math.MinInt64
	one   = api.One
	half  = api.One / 2
)

func spawning(m api.Map, l ...api.Vec) api.Map {
	m.Spawns = l
	return m
}

// room is where a player of a map of 3 by 3 by 4 cells has room to all sides: its middle cell.
var room = api.Vec{X: 3 * half, Y: 3 * half, Z: 2 * one}

func TestRight(t *testing.T) {
	for i, m := range []api.Map{
		spawning(plan.Open(1, 1, 2), api.Vec{X: half, Y: half, Z: one}),
		spawning(plan.Open(32, 1, 2), api.Vec{X: 31*one + half, Y: half, Z: one}),
		spawning(plan.Open(1, 32, 2), api.Vec{X: half, Y: 31*one + half, Z: one}),
		spawning(plan.Open(1, 1, 32), api.Vec{X: half, Y: half, Z: 31 * one}),
		spawning(plan.Open(32, 32, 32), room, api.Vec{X: 31 * one, Y: 31 * one, Z: 31 * one}, room),
		spawning(plan.Set(plan.Open(3, 3, 4), 0, 0, 0), room),
		spawning(plan.Open(3, 3, 4), slices.Repeat([]api.Vec{room}, 64)...),
	} {
		if e := grid.Right(m); e != api.OK {
			t.Errorf("%d: %v", i, e)
		}
	}
}

func TestRightOfMapsThatAreNotSized(t *testing.T) {
	for i, m := range plan.Unsized() {
		if e := grid.Right(spawning(m, room)); e != api.ErrArg {
			t.Errorf("%d, of %d by %d by %d and %d cells: %v", i, m.W, m.D, m.H, len(m.Solid), e)
		}
	}
	// A player has no room in a storey of one cell.
	if e := grid.Right(spawning(plan.Open(3, 3, 1), api.Vec{X: half, Y: half, Z: half})); e != api.ErrArg {
		t.Errorf("one storey: %v", e)
	}
}

func TestRightOfSpawns(t *testing.T) {
	m := plan.Open(3, 3, 4)
	ends := []api.Vec{}
	for _, n := range []int64{least, least + 1, least + one, -1 << 48, most, most - 1, most - one, 1 << 48, 1 << 32} {
		ends = append(ends, api.Vec{X: n, Y: room.Y, Z: room.Z}, api.Vec{X: room.X, Y: n, Z: room.Z}, api.Vec{X: room.X, Y: room.Y, Z: n}, api.Vec{X: n, Y: n, Z: n})
	}
	for i, l := range [][]api.Vec{nil, {}, slices.Repeat([]api.Vec{room}, 65), make([]api.Vec, 1), make([]api.Vec, 65), {room, {}}, {{}, room}, {room, {}, room}} {
		if e := grid.Right(spawning(m, l...)); e != api.ErrArg {
			t.Errorf("%d: %v", i, e)
		}
	}
	for _, at := range ends {
		if e := grid.Right(spawning(m, at)); e != api.ErrArg {
			t.Errorf("%v: %v", at, e)
		}
	}
	if e := grid.Right(spawning(plan.Set(m, 1, 1, 1), room)); e != api.ErrArg {
		t.Errorf("in a wall: %v", e)
	}
}

// The box of a player may touch a wall, be it the end of the map or a cell, but not reach into it.
func TestRightBesideWalls(t *testing.T) {
	ends := plan.Open(3, 3, 4)
	walls := plan.Open(3, 3, 4)
	for i, c := range [][3]int{{0, 1, 1}, {2, 1, 1}, {1, 0, 1}, {1, 2, 1}, {1, 1, 0}, {1, 1, 3}} {
		walls = plan.Set(walls, c[0], c[1], c[2])
		if e := grid.Right(spawning(walls, room)); e != api.OK {
			t.Errorf("wall %d: %v", i, e)
		}
	}
	type side struct {
		m         api.Map
		at, going api.Vec
	}
	for i, x := range []side{
		{ends, api.Vec{X: api.Wide, Y: room.Y, Z: room.Z}, api.Vec{X: -1}},
		{ends, api.Vec{X: 3*one - api.Wide, Y: room.Y, Z: room.Z}, api.Vec{X: 1}},
		{ends, api.Vec{X: room.X, Y: api.Wide, Z: room.Z}, api.Vec{Y: -1}},
		{ends, api.Vec{X: room.X, Y: 3*one - api.Wide, Z: room.Z}, api.Vec{Y: 1}},
		{ends, api.Vec{X: room.X, Y: room.Y, Z: api.Tall}, api.Vec{Z: -1}},
		{ends, api.Vec{X: room.X, Y: room.Y, Z: 4*one - api.Tall}, api.Vec{Z: 1}},
		{walls, api.Vec{X: one + api.Wide, Y: room.Y, Z: room.Z}, api.Vec{X: -1}},
		{walls, api.Vec{X: 2*one - api.Wide, Y: room.Y, Z: room.Z}, api.Vec{X: 1}},
		{walls, api.Vec{X: room.X, Y: one + api.Wide, Z: room.Z}, api.Vec{Y: -1}},
		{walls, api.Vec{X: room.X, Y: 2*one - api.Wide, Z: room.Z}, api.Vec{Y: 1}},
		{walls, api.Vec{X: room.X, Y: room.Y, Z: one + api.Tall}, api.Vec{Z: -1}},
		{walls, api.Vec{X: room.X, Y: room.Y, Z: 3*one - api.Tall}, api.Vec{Z: 1}},
	} {
		if e := grid.Right(spawning(x.m, x.at)); e != api.OK {
			t.Errorf("%d touches: %v", i, e)
		}
		into := api.Vec{X: x.at.X + x.going.X, Y: x.at.Y + x.going.Y, Z: x.at.Z + x.going.Z}
		if e := grid.Right(spawning(x.m, into)); e != api.ErrArg {
			t.Errorf("%d reaches in: %v", i, e)
		}
	}
}

// Each cell in turn is the one that is solid, in a map whose sides are not the same.
func TestSolid(t *testing.T) {
	for i := range 2 * 3 * 4 {
		m := plan.Open(2, 3, 4)
		m.Solid[i] = true
		for z := -2; z < 7; z++ {
			for y := -2; y < 6; y++ {
				for x := -2; x < 5; x++ {
					outside := x < 0 || x > 1 || y < 0 || y > 2 || z < 0 || z > 3
					want := outside || x+2*y+6*z == i
					if got := grid.Solid(m, x, y, z); got != want {
						t.Fatalf("%d: %d, %d, %d: %v", i, x, y, z, got)
					}
				}
			}
		}
	}
}

func TestSolidOutside(t *testing.T) {
	m := plan.Open(32, 32, 32)
	if grid.Solid(m, 0, 0, 0) || grid.Solid(m, 31, 31, 31) {
		t.Error("a corner of the map")
	}
	for _, n := range []int{-1, 32, 33, -32, 1 << 20, most, least, least + 1, 1 << 59, -1 << 59} {
		for i := range 3 {
			c := [3]int{1, 1, 1}
			c[i] = n
			if !grid.Solid(m, c[0], c[1], c[2]) {
				t.Errorf("%v is free", c)
			}
		}
		if !grid.Solid(m, n, n, n) {
			t.Errorf("%d along all axes is free", n)
		}
	}
	for i, m := range plan.Unsized() {
		if !grid.Solid(m, 0, 0, 0) || !grid.Solid(m, 1, 1, 1) || !grid.Solid(m, -1, 0, 0) {
			t.Errorf("%d, of %d by %d by %d and %d cells, has a free one", i, m.W, m.D, m.H, len(m.Solid))
		}
	}
}

func TestAt(t *testing.T) {
	for _, x := range []struct {
		n    int64
		want int
	}{
		{0, 0}, {1, 0}, {one - 1, 0}, {one, 1}, {one + 1, 1}, {5 * half, 2}, {32*one - 1, 31}, {32 * one, 32},
		{-1, -1}, {-half, -1}, {1 - one, -1}, {-one, -1}, {-one - 1, -2}, {-2 * one, -2}, {-2*one - 1, -3},
		{most, 1<<47 - 1}, {most - one + 1, 1<<47 - 1}, {most - one, 1<<47 - 2}, {least, -1 << 47}, {least + one - 1, -1 << 47}, {least + one, 1 - 1<<47},
	} {
		if a, b, c := grid.At(api.Vec{X: x.n, Y: 7 * one, Z: -7 * one}); a != x.want || b != 7 || c != -7 {
			t.Errorf("X %d: %d, %d, %d", x.n, a, b, c)
		}
		if a, b, c := grid.At(api.Vec{X: 7 * one, Y: x.n, Z: -7 * one}); a != 7 || b != x.want || c != -7 {
			t.Errorf("Y %d: %d, %d, %d", x.n, a, b, c)
		}
		if a, b, c := grid.At(api.Vec{X: 7 * one, Y: -7 * one, Z: x.n}); a != 7 || b != -7 || c != x.want {
			t.Errorf("Z %d: %d, %d, %d", x.n, a, b, c)
		}
	}
}

func TestClear(t *testing.T) {
	m := plan.Set(plan.Open(3, 3, 3), 1, 1, 1)
	all := api.Vec{X: 3 * one, Y: 3 * one, Z: 3 * one}
	in, out := api.Vec{X: one, Y: one, Z: one}, api.Vec{X: 2 * one, Y: 2 * one, Z: 2 * one}
	for i, x := range []struct {
		lo, hi api.Vec
		want   bool
	}{
		{api.Vec{}, all, false},
		{api.Vec{}, api.Vec{X: one, Y: 3 * one, Z: 3 * one}, true},
		{api.Vec{}, api.Vec{X: one + 1, Y: 3 * one, Z: 3 * one}, false},
		{api.Vec{}, api.Vec{X: 3 * one, Y: one, Z: 3 * one}, true},
		{api.Vec{}, api.Vec{X: 3 * one, Y: one + 1, Z: 3 * one}, false},
		{api.Vec{}, api.Vec{X: 3 * one, Y: 3 * one, Z: one}, true},
		{api.Vec{}, api.Vec{X: 3 * one, Y: 3 * one, Z: one + 1}, false},
		{api.Vec{X: 2 * one}, all, true},
		{api.Vec{X: 2*one - 1}, all, false},
		{api.Vec{Y: 2 * one}, all, true},
		{api.Vec{Y: 2*one - 1}, all, false},
		{api.Vec{Z: 2 * one}, all, true},
		{api.Vec{Z: 2*one - 1}, all, false},
		{in, out, false},
		{in, api.Vec{X: one + 1, Y: one + 1, Z: one + 1}, false},
		{api.Vec{X: 2*one - 1, Y: 2*one - 1, Z: 2*one - 1}, out, false},
		// Ends that lie on one another, or are turned round, have no point between them, wherever they are.
		{in, in, true},
		{out, in, true},
		{in, api.Vec{X: one, Y: 2 * one, Z: 2 * one}, true},
		{in, api.Vec{X: 2 * one, Y: one, Z: 2 * one}, true},
		{in, api.Vec{X: 2 * one, Y: 2 * one, Z: one}, true},
		{in, api.Vec{X: 2 * one, Y: 2 * one, Z: one - 1}, true},
		{api.Vec{X: most, Y: most, Z: most}, api.Vec{X: least, Y: least, Z: least}, true},
		{api.Vec{X: least, Y: least, Z: least}, api.Vec{X: least, Y: most, Z: most}, true},
		{api.Vec{X: most, Y: least, Z: least}, api.Vec{X: most, Y: most, Z: most}, true},
		// Outside.
		{api.Vec{X: -1}, api.Vec{X: one, Y: one, Z: one}, false},
		{api.Vec{Y: -1}, api.Vec{X: one, Y: one, Z: one}, false},
		{api.Vec{Z: -1}, api.Vec{X: one, Y: one, Z: one}, false},
		{out, api.Vec{X: 3*one + 1, Y: 3 * one, Z: 3 * one}, false},
		{out, api.Vec{X: 3 * one, Y: 3*one + 1, Z: 3 * one}, false},
		{out, api.Vec{X: 3 * one, Y: 3 * one, Z: 3*one + 1}, false},
		{out, all, true},
		{api.Vec{X: -one}, api.Vec{Y: one, Z: one}, false},
		{api.Vec{X: 3 * one}, api.Vec{X: 4 * one, Y: one, Z: one}, false},
		{api.Vec{X: least, Y: least, Z: least}, api.Vec{X: most, Y: most, Z: most}, false},
		{api.Vec{X: least, Y: least, Z: least}, api.Vec{X: least + 1, Y: least + 1, Z: least + 1}, false},
		{api.Vec{X: most - 1, Y: most - 1, Z: most - 1}, api.Vec{X: most, Y: most, Z: most}, false},
	} {
		if got := grid.Clear(m, x.lo, x.hi); got != x.want {
			t.Errorf("%d: from %v to %v: %v", i, x.lo, x.hi, got)
		}
	}
}

func TestClearOfMapsThatAreNotSized(t *testing.T) {
	for i, m := range plan.Unsized() {
		if grid.Clear(m, api.Vec{}, api.Vec{X: 1, Y: 1, Z: 1}) {
			t.Errorf("%d: a point is free", i)
		}
		if !grid.Clear(m, api.Vec{}, api.Vec{X: 1, Y: 1, Z: 0}) {
			t.Errorf("%d: no point is not free", i)
		}
	}
}

// overlaps tells whether there is a number from lo on, and below hi, in the cell n.
func overlaps(lo, hi int64, n int) bool {
	return max(lo, int64(n)*one) < min(hi, int64(n+1)*one)
}

// wantClear goes through all cells of the map and two beyond: boxes reach no farther here.
func wantClear(m api.Map, lo, hi api.Vec) bool {
	for z := -2; z < m.H+2; z++ {
		for y := -2; y < m.D+2; y++ {
			for x := -2; x < m.W+2; x++ {
				if overlaps(lo.X, hi.X, x) && overlaps(lo.Y, hi.Y, y) && overlaps(lo.Z, hi.Z, z) && grid.Solid(m, x, y, z) {
					return false
				}
			}
		}
	}
	return true
}

func TestClearOfManyBoxes(t *testing.T) {
	seed := uint32(9)
	// near is so many cells on, or right beside that, or anywhere behind it.
	near := func(cells int64) int64 {
		return cells*one + [4]int64{-1, 0, 1, plan.Next(&seed)}[plan.Next(&seed)%4]
	}
	// span is at most some cells long; few are turned round, or lie outside.
	span := func(side int64) (int64, int64) {
		n := plan.Next(&seed) % side
		return near(n), near(n + plan.Next(&seed)%2 + plan.Next(&seed)%8/7)
	}
	seen := [2]int{}
	for i := range 30000 {
		m := plan.Mixed(3, 4, 2, 12, uint32(i/100))
		var lo, hi api.Vec
		lo.X, hi.X = span(3)
		lo.Y, hi.Y = span(4)
		lo.Z, hi.Z = span(2)
		want := wantClear(m, lo, hi)
		if got := grid.Clear(m, lo, hi); got != want {
			t.Fatalf("map %d, from %v to %v: %v", i/100, lo, hi, got)
		}
		if lo.X < hi.X && lo.Y < hi.Y && lo.Z < hi.Z {
			if want {
				seen[1]++
			} else {
				seen[0]++
			}
		}
	}
	if seen[0] < 1000 || seen[1] < 1000 {
		t.Errorf("only %v boxes of both sorts", seen)
	}
}

// What calls are handed stays as it was, and the same calls have the same answers.
func TestMapsStayAsTheyWere(t *testing.T) {
	m := spawning(plan.Mixed(3, 3, 4, 4, 5), room, api.Vec{})
	was := spawning(m, slices.Clone(m.Spawns)...)
	was.Solid = slices.Clone(m.Solid)
	for range 2 {
		grid.Right(m)
		grid.Solid(m, 1, 1, 1)
		grid.Clear(m, api.Vec{}, room)
		grid.Sight(m, api.Vec{}, room)
	}
	if !reflect.DeepEqual(m, was) {
		t.Error("the map has changed")
	}
	n := spawning(plan.Open(3, 3, 4), room)
	before := grid.Right(n)
	n.Solid[4+9] = true
	if after := grid.Right(n); before != api.OK || after != api.ErrArg {
		t.Errorf("written over: %v, and then %v", before, after)
	}
}
