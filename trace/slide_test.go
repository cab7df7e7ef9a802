package trace_test

import (
	"testing"

	"embrasure/api"
	"embrasure/plan"
	"embrasure/trace"
)

// slid is where somebody goes, and what comes of it.
type slid struct {
	at, by, want place
	blocked      [3]bool
}

func check(t *testing.T, m api.Map, l []slid) {
	t.Helper()
	for i, x := range l {
		for range 2 {
			if at, blocked := trace.Slide(m, x.at.Vec(), x.by.Vec()); at != x.want.Vec() || blocked != x.blocked {
				t.Errorf("%d: from %v by %v: %v, %v", i, x.at, x.by, at, blocked)
			}
		}
	}
}

var (
	nowhere = [3]bool{}
	xAlone  = [3]bool{true, false, false}
	yAlone  = [3]bool{false, true, false}
	zAlone  = [3]bool{false, false, true}
)

// Against a wall to the east one slides along it to the north.
func TestSlideAlongAWall(t *testing.T) {
	m := plan.Of([]string{"..#", "..#", "..#"}, []string{"..#", "..#", "..#"})
	at := place{2*one - api.Wide, half, one}
	check(t, m, []slid{
		{at, place{one / 4, one / 4, 0}, place{2*one - api.Wide, 3 * one / 4, one}, xAlone},
		{at, place{one / 4, 0, 0}, at, xAlone},
		{at, place{0, one / 4, 0}, place{at[0], 3 * one / 4, one}, nowhere},
		{at, place{-one / 4, one / 4, 0}, place{at[0] - one/4, 3 * one / 4, one}, nowhere},
	})
	north := at.Vec()
	for range 20 {
		next, blocked := trace.Slide(m, north, api.Vec{X: one / 4, Y: one / 8})
		if next.X != at[0] || next.Z != one || !blocked[0] || blocked[2] || blocked[1] != (next.Y == north.Y) {
			t.Fatalf("from %v to %v, %v", north, next, blocked)
		}
		north = next
	}
	// 17 steps of an eighth from a half on are the last that leave the box its room.
	if north.Y != half+16*one/8 {
		t.Errorf("ends at %v", north)
	}
}

// In an open map an axis is blocked just if one goes along it against the map's end that one touches, whatever the others are.
func TestSlideOfEachAxis(t *testing.T) {
	m := plan.Open(3, 3, 4)
	for mask := range 1 << 9 {
		x := slid{at: room}
		for axis := range 3 {
			bits := mask >> (3 * axis)
			touches, goes, rises := bits&1 != 0, bits&2 != 0, bits&4 != 0
			way := int64(-1)
			if rises {
				way = 1
			}
			if touches && rises {
				x.at[axis] = ends[axis] - reach[axis]
			} else if touches {
				x.at[axis] = reach[axis]
			}
			x.want[axis] = x.at[axis]
			if goes {
				x.by[axis] = way
				x.blocked[axis] = touches
			}
			if goes && !touches {
				x.want[axis] += way
			}
		}
		check(t, m, []slid{x})
	}
}

// One goes all the way or not at all, up to what is solid and no farther.
func TestSlideUpToAWall(t *testing.T) {
	m := plan.Open(3, 3, 4)
	for axis := range 3 {
		var blocked [3]bool
		blocked[axis] = true
		lo, hi := reach[axis], ends[axis]-reach[axis]
		by := func(n int64) place { return place{}.With(axis, n) }
		at := func(n int64) place { return room.With(axis, n) }
		check(t, m, []slid{
			{at(lo + 9), by(-9), at(lo), nowhere}, {at(lo + 9), by(-10), at(lo + 9), blocked}, {at(lo + 9), by(-8), at(lo + 1), nowhere},
			{at(hi - 9), by(9), at(hi), nowhere}, {at(hi - 9), by(10), at(hi - 9), blocked}, {at(hi - 9), by(8), at(hi - 1), nowhere},
			{at(lo), by(1), at(lo + 1), nowhere}, {at(lo), by(0), at(lo), nowhere}, {at(hi), by(-1), at(hi - 1), nowhere}, {at(hi), by(0), at(hi), nowhere},
		})
	}
}

func TestSlideIsCut(t *testing.T) {
	m := plan.Open(3, 3, 4)
	for axis := range 3 {
		var blocked [3]bool
		blocked[axis] = true
		for _, x := range []struct{ by, want int64 }{
			{api.Most - 1, api.Most - 1}, {api.Most, api.Most}, {api.Most + 1, api.Most}, {one, api.Most}, {1 << 40, api.Most}, {most - 1, api.Most}, {most, api.Most},
			{1 - api.Most, 1 - api.Most}, {-api.Most, -api.Most}, {-api.Most - 1, -api.Most}, {-one, -api.Most}, {-1 << 40, -api.Most}, {least + 1, -api.Most}, {least, -api.Most},
		} {
			by := place{}.With(axis, x.by)
			check(t, m, []slid{{room, by, room.With(axis, room[axis]+x.want), nowhere}})
			// What is left of it has just room as far as the map's end, or lacks one.
			end := reach[axis]
			if x.by > 0 {
				end = ends[axis] - reach[axis]
			}
			start := room.With(axis, end-x.want)
			check(t, m, []slid{{start, by, room.With(axis, end), nowhere}})
			if x.by > 0 {
				start[axis]++
			} else {
				start[axis]--
			}
			check(t, m, []slid{{start, by, start, blocked}})
		}
	}
	check(t, m, []slid{
		{room, place{most, most, most}, place{room[0] + api.Most, room[1] + api.Most, room[2] + api.Most}, nowhere},
		{room, place{least, least, least}, place{room[0] - api.Most, room[1] - api.Most, room[2] - api.Most}, nowhere},
		{room, place{least, 1, most}, place{room[0] - api.Most, room[1] + 1, room[2] + api.Most}, nowhere},
	})
}

// Beside corners each axis is free for itself: the first one goes there, and those behind it may be blocked by that.
func TestSlideOrder(t *testing.T) {
	at := place{one - api.Wide, one - api.Wide, 2*one - api.Tall}
	for mask := range 1 << 4 {
		m := plan.Open(2, 2, 3)
		var solid [4]bool
		for i, c := range [4][3]int{{1, 1, 0}, {1, 0, 2}, {0, 1, 2}, {1, 1, 2}} {
			if solid[i] = mask>>i&1 == 1; solid[i] {
				m = plan.Set(m, c[0], c[1], c[2])
			}
		}
		xy, xz, yz, xyz := solid[0], solid[1], solid[2], solid[3]
		for axis := range 3 {
			check(t, m, []slid{{at, place{}.With(axis, half), at.With(axis, at[axis]+half), nowhere}})
		}
		l := []slid{
			{at, place{half, half, 0}, at, [3]bool{false, xy, false}},
			{at, place{half, 0, half}, at, [3]bool{false, false, xz}},
			{at, place{0, half, half}, at, [3]bool{false, false, yz}},
			{at, place{half, half, half}, at, [3]bool{false, xy, xz || !xy && (yz || xyz)}},
		}
		for i, x := range l {
			for axis, is := range x.blocked {
				if !is {
					l[i].want[axis] += x.by[axis]
				}
			}
		}
		check(t, m, l)
	}
}

// Who is not free may go where it is; an axis along which it goes not at all is not blocked.
func TestSlideOfWhoIsNotFree(t *testing.T) {
	m := plan.Of([]string{"#..", "#.."}, []string{"#..", "#.."}, []string{"...", "..."})
	// A bit less than half a cell within the wall, beside the map's end.
	at := place{one + api.Wide - half, api.Wide, one}
	check(t, m, []slid{
		{at, place{}, at, nowhere},
		{at, place{half, 0, 0}, place{one + api.Wide, api.Wide, one}, nowhere},
		{at, place{most, 0, 0}, place{one + api.Wide, api.Wide, one}, nowhere},
		{at, place{half - 1, 0, 0}, at, xAlone},
		{at, place{-1, 0, 0}, at, xAlone},
		{at, place{0, 1, 0}, at, yAlone},
		{at, place{0, 0, 1}, at, zAlone},
		{at, place{0, least, most}, at, [3]bool{false, true, true}},
		{at, place{1, 1, 1}, at, [3]bool{true, true, true}},
		{at, place{half, 1, 1}, place{one + api.Wide, api.Wide + 1, one + 1}, nowhere},
		{at, place{half, -1, 0}, place{one + api.Wide, api.Wide, one}, yAlone},
	})
	// Z comes last: X and Y are blocked by then, and stay it.
	under := place{half, one, 2*one + api.Tall - half}
	tall := plan.Of([]string{"#", "#"}, []string{"#", "#"}, []string{".", "."}, []string{".", "."})
	check(t, tall, []slid{
		{under, place{1, 1, half}, under.With(2, 2*one+api.Tall), [3]bool{true, true, false}},
		{under, place{0, 1, half}, under.With(2, 2*one+api.Tall), yAlone},
		{under, place{0, 0, half}, under.With(2, 2*one+api.Tall), nowhere},
		{under, place{1, 1, half - 1}, under, [3]bool{true, true, true}},
	})
}

// Nothing there is free, but also nobody is carried over the ends of all numbers.
func TestSlideAtTheEndsOfAllNumbers(t *testing.T) {
	m := plan.Open(3, 3, 4)
	l := []slid{}
	for _, n := range far {
		for _, way := range []int64{1, -1, api.Most, -api.Most, most, least} {
			all := place{n, n, n}
			l = append(l, slid{all, place{way, way, way}, all, [3]bool{true, true, true}}, slid{all, place{}, all, nowhere})
			for axis := range 3 {
				var blocked [3]bool
				blocked[axis] = true
				at := room.With(axis, n)
				l = append(l, slid{at, place{}.With(axis, way), at, blocked}, slid{at, place{}, at, nowhere})
			}
		}
	}
	check(t, m, l)
}

func TestSlideOfMapsThatAreNotSized(t *testing.T) {
	for _, m := range plan.Unsized() {
		check(t, m, []slid{
			{room, place{}, room, nowhere},
			{room, place{1, 0, 0}, room, xAlone},
			{room, place{0, -1, 0}, room, yAlone},
			{room, place{0, 0, most}, room, zAlone},
			{room, place{least, most, 1}, room, [3]bool{true, true, true}},
		})
	}
}

// wantSlide asks the model alone where one fits, axis by axis.
func wantSlide(m api.Map, at, by place) (place, [3]bool) {
	var blocked [3]bool
	for axis := range 3 {
		way := min(max(by[axis], -api.Most), api.Most)
		if next := at.With(axis, at[axis]+way); wantFree(m, next) {
			at = next
		} else if way != 0 {
			blocked[axis] = true
		}
	}
	return at, blocked
}

// step is a way that somebody may go: not at all along some axes, along some just a bit, along some farther than it may.
func step(seed *uint32) place {
	var by place
	for axis := range by {
		n := plan.Next(seed)
		by[axis] = [6]int64{0, 1, -1, n - half, n*2 - one, (n - half) << 20}[plan.Next(seed)%6]
	}
	return by
}

func TestSlideOfManyPlaces(t *testing.T) {
	seed := uint32(20)
	var stopped [3]int
	for i := range 30000 {
		m := plan.Mixed(3, 4, 5, 12, uint32(i/100))
		at, by := anywhere(m, &seed), step(&seed)
		want, blocked := wantSlide(m, at, by)
		if got, b := trace.Slide(m, at.Vec(), by.Vec()); got != want.Vec() || b != blocked {
			t.Fatalf("map %d, from %v by %v: %v, %v", i/100, at, by, got, b)
		}
		for axis, is := range blocked {
			if is && wantFree(m, at) {
				stopped[axis]++
			}
		}
	}
	for axis, n := range stopped {
		if n < 500 {
			t.Errorf("axis %d was blocked only %d times", axis, n)
		}
	}
}

// Who is free stays free, as far as it may go.
func TestWhoIsFreeStaysFree(t *testing.T) {
	seed := uint32(30)
	walks := 0
	for i := range 300 {
		m := plan.Mixed(4, 4, 6, 12, uint32(i))
		at := anywhere(m, &seed)
		if !wantFree(m, at) {
			continue
		}
		walks++
		for range 200 {
			by := step(&seed)
			want, _ := wantSlide(m, at, by)
			next, _ := trace.Slide(m, at.Vec(), by.Vec())
			if next != want.Vec() || !trace.Free(m, next) || !wantFree(m, want) {
				t.Fatalf("map %d, from %v by %v: %v", i, at, by, next)
			}
			at = want
		}
	}
	if walks < 50 {
		t.Errorf("only %d walks", walks)
	}
}
