package grid

import (
	"cmp"

	"embrasure/api"
)

// Sight tells whether no point of the line from a to b is solid, its ends among them (I3).
func Sight(m api.Map, a, b api.Vec) bool {
	// With both ends inside of the map the whole line is: so its numbers are small, and their products have room.
	if solidAt(m, a) || solidAt(m, b) {
		return false
	}
	l := between(a, b)
	for next, is := l.next(); is; next, is = l.next() {
		// A cell has its beginning, but not its end: at the edge itself those that rise are in the next cell already, those that fall are so right behind it only.
		for _, rises := range [2]bool{true, false} {
			l.step(func(x axis) bool { return x.rises() == rises && x.goes() && x.against(next) == 0 })
			if l.solid(m) {
				return false
			}
		}
	}
	return true
}

// axis is one axis of a line, and the cell that it has come to.
type axis struct {
	from, to int64
	at       int
}

func along(from, to int64) axis { return axis{from: from, to: to, at: cell(from)} }

func (x axis) rises() bool { return x.to > x.from }

// goes tells whether there is an edge ahead, between the cell it is in and that of its end.
func (x axis) goes() bool { return x.at != cell(x.to) }

func (x axis) long() int64 {
	if x.rises() {
		return x.to - x.from
	}
	return x.from - x.to
}

// edge is how far it is from the beginning to the edge ahead.
func (x axis) edge() int64 {
	if x.rises() {
		return int64(x.at+1)*api.One - x.from
	}
	return x.from - int64(x.at)*api.One
}

// against is below 0, if x comes to its edge ahead of y, 0, if both do so at once: edges are shares of the way, that are held against each other without a division.
func (x axis) against(y axis) int { return cmp.Compare(x.edge()*y.long(), y.edge()*x.long()) }

// line is its axes, X, Y and Z.
type line [3]axis

func between(a, b api.Vec) line {
	return line{along(a.X, b.X), along(a.Y, b.Y), along(a.Z, b.Z)}
}

// next is an axis that comes to its edge first; false, if all are in the cells of their ends.
func (l line) next() (axis, bool) {
	var first axis
	found := false
	for _, x := range l {
		if x.goes() && (!found || x.against(first) < 0) {
			first, found = x, true
		}
	}
	return first, found
}

// step moves the axes of which steps says so into the next cell.
func (l *line) step(steps func(x axis) bool) {
	for i, x := range l {
		switch {
		case !steps(x):
		case x.rises():
			l[i].at++
		default:
			l[i].at--
		}
	}
}

func (l line) solid(m api.Map) bool { return Solid(m, l[0].at, l[1].at, l[2].at) }
