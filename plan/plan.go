// Package plan makes the maps that the tests of the layers play in, and numbers to try them with.
package plan

import (
	"math"
	"slices"

	"embrasure/api"
)

// Open is a map of these sides without a solid cell.
func Open(w, d, h int) api.Map { return api.Map{W: w, D: d, H: h, Solid: make([]bool, w*d*h)} }

// Set is a map of which one cell more is solid.
func Set(m api.Map, x, y, z int) api.Map {
	m.Solid = slices.Clone(m.Solid)
	m.Solid[(z*m.D+y)*m.W+x] = true
	return m
}

// Of is a map of storeys, the lowest one first: a row of text for each y, of which # is solid.
func Of(storeys ...[]string) api.Map {
	m := api.Map{W: len(storeys[0][0]), D: len(storeys[0]), H: len(storeys)}
	for _, rows := range storeys {
		for _, row := range rows {
			for _, c := range row {
				m.Solid = append(m.Solid, c == '#')
			}
		}
	}
	return m
}

// Mixed is a map of which about one of so many cells is solid, another one for each seed.
func Mixed(w, d, h int, of int64, seed uint32) api.Map {
	m := Open(w, d, h)
	for i := range m.Solid {
		m.Solid[i] = Next(&seed)%of == 0
	}
	return m
}

// Next is a number from 0 to 65535 that looks like any other; the same seed has the same ones.
func Next(seed *uint32) int64 {
	*seed = *seed*1664525 + 1013904223
	return int64(*seed >> 16)
}

// Unsized are maps that are not sized, each in another way.
func Unsized() []api.Map {
	l := []api.Map{{}, {W: 3, D: 3, H: 4}, {Solid: make([]bool, 36)}}
	for _, side := range []int{0, -1, -3, api.MaxSide + 1, math.MaxInt, math.MinInt} {
		for i := range 3 {
			sides := [3]int{3, 3, 4}
			sides[i] = side
			m := api.Map{W: sides[0], D: sides[1], H: sides[2]}
			// The length is what the sides ask for, where it can be.
			if n := m.W * m.D * m.H; n > 0 && n < 1<<20 {
				m.Solid = make([]bool, n)
			}
			l = append(l, m)
		}
	}
	for _, n := range []int{0, 1, 35, 37, 72} {
		l = append(l, api.Map{W: 3, D: 3, H: 4, Solid: make([]bool, n)})
	}
	return append(l,
		api.Map{W: -3, D: -3, H: 4, Solid: make([]bool, 36)},
		api.Map{W: -3, D: 3, H: -4, Solid: make([]bool, 36)},
		api.Map{W: 32, D: 32, H: 32, Solid: make([]bool, 32*32*32-1)},
		api.Map{W: 32, D: 32, H: 32, Solid: make([]bool, 32*32*32+1)},
		api.Map{W: 1 << 32, D: 1 << 32, H: 1},
	)
}

// Place is a vector by its axes, so that tests can go through them.
type Place [3]int64

// At is the place of a vector.
func At(v api.Vec) Place { return Place{v.X, v.Y, v.Z} }

// Vec is the vector of a place.
func (p Place) Vec() api.Vec { return api.Vec{X: p[0], Y: p[1], Z: p[2]} }

// With is the place with another number along one axis.
func (p Place) With(axis int, n int64) Place {
	p[axis] = n
	return p
}
