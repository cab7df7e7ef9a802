package plan_test

import (
	"slices"
	"testing"

	"embrasure/api"
	"embrasure/grid"
	"embrasure/plan"
)

// The tests of all layers stand on these maps: each cell must be where it was written.
func TestOf(t *testing.T) {
	m := plan.Of([]string{"#..", "..."}, []string{"...", ".##"})
	want := []bool{true, false, false, false, false, false, false, false, false, false, true, true}
	if m.W != 3 || m.D != 2 || m.H != 2 || !slices.Equal(m.Solid, want) {
		t.Errorf("%v", m)
	}
	if n := plan.Set(plan.Set(plan.Set(plan.Open(3, 2, 2), 0, 0, 0), 1, 1, 1), 2, 1, 1); !slices.Equal(n.Solid, want) {
		t.Errorf("set: %v", n)
	}
}

func TestSetLeavesTheMapAlone(t *testing.T) {
	m := plan.Open(2, 1, 1)
	if n := plan.Set(m, 1, 0, 0); m.Solid[1] || !n.Solid[1] {
		t.Errorf("%v, then %v", m, n)
	}
}

func TestMixed(t *testing.T) {
	m := plan.Mixed(10, 10, 10, 4, 1)
	solid := 0
	for _, is := range m.Solid {
		if is {
			solid++
		}
	}
	if solid < 200 || solid > 300 {
		t.Errorf("%d of 1000 cells are solid", solid)
	}
	if !slices.Equal(m.Solid, plan.Mixed(10, 10, 10, 4, 1).Solid) || slices.Equal(m.Solid, plan.Mixed(10, 10, 10, 4, 2).Solid) {
		t.Error("a map hangs on its seed, and on nothing else")
	}
}

// Of a map that is not sized all is solid, also what lies in the middle of one of 3 by 3 by 4 cells.
func TestUnsized(t *testing.T) {
	if grid.Solid(plan.Open(3, 3, 4), 1, 1, 1) {
		t.Fatal("a map that is sized has a solid cell")
	}
	for i, m := range plan.Unsized() {
		if !grid.Solid(m, 1, 1, 1) {
			t.Errorf("%d, of %d by %d by %d and %d cells, is sized", i, m.W, m.D, m.H, len(m.Solid))
		}
	}
}

func TestPlace(t *testing.T) {
	p := plan.Place{1, 2, 3}
	if p.Vec() != (api.Vec{X: 1, Y: 2, Z: 3}) || plan.At(p.Vec()) != p {
		t.Errorf("%v", p.Vec())
	}
	for axis := range 3 {
		q := p.With(axis, 9)
		p2 := p
		p2[axis] = 9
		if q != p2 || p != (plan.Place{1, 2, 3}) {
			t.Errorf("axis %d: %v of %v", axis, q, p)
		}
	}
}
