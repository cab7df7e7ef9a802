package trace_test

import (
	"math"
	"reflect"
	"slices"
	"testing"

	"embrasure/api"
	"embrasure/plan"
	"embrasure/trace"
)

const (
	most  = math.MaxInt64
	least = math.MinInt64
	one   = api.One
	half  = api.One / 2
)

// place is a vector by its axes.
type place = plan.Place

// reach is how far a player's box reaches from its place, along each axis and both ways.
var reach = place{api.Wide, api.Wide, api.Tall}

// room is the middle of a map of 3 by 3 by 4 cells, in which a player may move along each axis.
var room = place{3 * half, 3 * half, 2 * one}

// ends are the sides of that map.
var ends = place{3 * one, 3 * one, 4 * one}

func TestFree(t *testing.T) {
	m := plan.Open(3, 3, 4)
	for i, x := range []struct {
		m    api.Map
		at   place
		want bool
	}{
		{m, room, true}, {m, place{half, half, one}, true}, {m, place{5 * half, 5 * half, 3 * one}, true},
		{m, place{}, false}, {m, place{half, half, half}, false}, {m, place{-half, half, one}, false}, {m, place{7 * half, half, one}, false},
		{plan.Set(m, 1, 1, 1), room, false}, {plan.Set(m, 1, 1, 2), room, false}, {plan.Set(m, 1, 1, 0), room, true}, {plan.Set(m, 1, 1, 3), room, true},
		// Just the cell of a map that is narrow has room, and none that is low.
		{plan.Open(1, 1, 2), place{half, half, one}, true}, {plan.Open(1, 1, 1), place{half, half, half}, false},
		// In the midst of four cells a player needs them all.
		{m, place{one, one, one}, true}, {plan.Set(m, 0, 0, 0), place{one, one, one}, false}, {plan.Set(m, 1, 0, 0), place{one, one, one}, false},
		{plan.Set(m, 0, 1, 1), place{one, one, one}, false}, {plan.Set(m, 1, 1, 1), place{one, one, one}, false}, {plan.Set(m, 1, 1, 2), place{one, one, one}, true},
	} {
		if got := trace.Free(x.m, x.at.Vec()); got != x.want {
			t.Errorf("%d: %v: %v", i, x.at, got)
		}
	}
}

// A player may touch what is solid along each axis and both ways, be it the map's end or a cell, but not reach into it.
func TestFreeBesideWalls(t *testing.T) {
	m := plan.Open(3, 3, 4)
	walls := m
	for _, c := range [][3]int{{0, 1, 1}, {2, 1, 1}, {1, 0, 1}, {1, 2, 1}, {1, 1, 0}, {1, 1, 3}} {
		walls = plan.Set(walls, c[0], c[1], c[2])
	}
	for axis := range 3 {
		for _, x := range []struct {
			m      api.Map
			lo, hi int64
		}{{m, 0, ends[axis]}, {walls, one, ends[axis] - one}} {
			for _, edge := range []struct {
				n    int64
				want bool
			}{
				{x.lo + reach[axis], true}, {x.lo + reach[axis] - 1, false}, {x.lo + reach[axis] + 1, true}, {x.lo, false}, {x.lo - 1, false},
				{x.hi - reach[axis], true}, {x.hi - reach[axis] + 1, false}, {x.hi - reach[axis] - 1, true}, {x.hi, false}, {x.hi + 1, false},
			} {
				if got := trace.Free(x.m, room.With(axis, edge.n).Vec()); got != edge.want {
					t.Errorf("axis %d from %d to %d, at %d: %v", axis, x.lo, x.hi, edge.n, got)
				}
			}
		}
	}
}

// far are numbers beyond all maps, some of which have no room for a player's reach beside them.
var far = []int64{
	least, least + 1, least + api.Wide - 1, least + api.Wide, least + api.Tall, least + one, -1 << 48, -1 << 32,
	most, most - 1, most - api.Wide + 1, most - api.Wide, most - api.Tall, most - one, 1 << 48, 1 << 32,
}

func TestFreeAtTheEndsOfAllNumbers(t *testing.T) {
	m := plan.Open(3, 3, 4)
	for _, n := range far {
		for axis := range 3 {
			if trace.Free(m, room.With(axis, n).Vec()) {
				t.Errorf("axis %d at %d is free", axis, n)
			}
		}
		if trace.Free(m, place{n, n, n}.Vec()) {
			t.Errorf("all axes at %d are free", n)
		}
	}
}

func TestFreeOfMapsThatAreNotSized(t *testing.T) {
	for i, m := range plan.Unsized() {
		for _, at := range []place{room, {}, {half, half, one}, {-half, half, one}, {most, least, 0}} {
			if trace.Free(m, at.Vec()) {
				t.Errorf("%d, of %d by %d by %d and %d cells: %v is free", i, m.W, m.D, m.H, len(m.Solid), at)
			}
		}
	}
}

// wantFree goes through all cells of a map and two beyond, farther than the places of these tests: does the box meet a solid one?
func wantFree(m api.Map, at place) bool {
	meets := func(axis, cell int) bool {
		return at[axis]-reach[axis] < int64(cell+1)*one && at[axis]+reach[axis] > int64(cell)*one
	}
	for z := -2; z < m.H+2; z++ {
		for y := -2; y < m.D+2; y++ {
			for x := -2; x < m.W+2; x++ {
				outside := x < 0 || y < 0 || z < 0 || x >= m.W || y >= m.D || z >= m.H
				if meets(0, x) && meets(1, y) && meets(2, z) && (outside || m.Solid[(z*m.D+y)*m.W+x]) {
					return false
				}
			}
		}
	}
	return true
}

// anywhere is a place in a map, or a bit beside it; many touch an end of a cell, or miss that by one.
func anywhere(m api.Map, seed *uint32) place {
	var at place
	for axis, side := range [3]int{m.W, m.D, m.H} {
		n := plan.Next(seed) % int64(side+1) * one
		at[axis] = n + [5]int64{reach[axis], reach[axis] - 1, -reach[axis], 1 - reach[axis], plan.Next(seed)}[plan.Next(seed)%5]
	}
	return at
}

func TestFreeOfManyPlaces(t *testing.T) {
	seed := uint32(10)
	seen := map[bool]int{}
	for i := range 30000 {
		m := plan.Mixed(3, 4, 5, 12, uint32(i/100))
		at := anywhere(m, &seed)
		want := wantFree(m, at)
		if got := trace.Free(m, at.Vec()); got != want {
			t.Fatalf("map %d, %v: %v", i/100, at, got)
		}
		seen[want]++
	}
	if seen[false] < 1000 || seen[true] < 1000 {
		t.Errorf("only %v places of both sorts", seen)
	}
}

// What calls are handed stays as it was, and nothing of it is kept.
func TestMapsStayAsTheyWere(t *testing.T) {
	m := plan.Mixed(3, 3, 4, 8, 5)
	m.Spawns = []api.Vec{room.Vec(), {}}
	was := m
	was.Solid, was.Spawns = slices.Clone(m.Solid), slices.Clone(m.Spawns)
	for _, at := range []place{room, {}, {half, half, one}, {most, least, most}} {
		trace.Free(m, at.Vec())
		trace.Slide(m, at.Vec(), api.Vec{X: 1, Y: -1, Z: most})
	}
	if !reflect.DeepEqual(m, was) {
		t.Error("the map has changed")
	}
	n := plan.Open(3, 3, 4)
	before := trace.Free(n, room.Vec())
	n.Solid[4+9] = true
	if after := trace.Free(n, room.Vec()); !before || after {
		t.Errorf("written over: %v, and then %v", before, after)
	}
}
