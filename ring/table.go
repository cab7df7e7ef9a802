package ring

import (
	"cmp"
	"iter"
	"slices"

	"embrasure/api"
)

// Table has things by their ids (B2).
type Table[T any] struct {
	most int
	// Ids only rise, so rows that are appended stand in the ids' order.
	rows []row[T]
	// Kept beside the rows, since the row of the last id may have gone.
	last int
}

type row[T any] struct {
	id    int
	thing T
}

// NewTable is one without things (B2).
func NewTable[T any](most int) *Table[T] {
	return &Table[T]{most: atLeastOne(most)}
}

// Add puts x in by the next id, and tells that id (B2).
func (t *Table[T]) Add(x T) (int, api.Errno) {
	if len(t.rows) >= t.most {
		return 0, api.ErrFull
	}
	t.last++
	t.rows = append(t.rows, row[T]{id: t.last, thing: x})
	return t.last, api.OK
}

// Get is the thing of an id (B2).
func (t *Table[T]) Get(id int) (x T, is bool) {
	i, is := t.find(id)
	if !is {
		return x, false
	}
	return t.rows[i].thing, true
}

// Put puts x in the place of the id's thing, if there is one (B2).
func (t *Table[T]) Put(id int, x T) bool {
	i, is := t.find(id)
	if is {
		t.rows[i].thing = x
	}
	return is
}

// Drop takes the id's thing out, if there is one (B2).
func (t *Table[T]) Drop(id int) bool {
	i, is := t.find(id)
	if is {
		t.rows = slices.Delete(t.rows, i, i+1)
	}
	return is
}

// Len is how many there are (B2).
func (t *Table[T]) Len() int { return len(t.rows) }

// All goes through ids and things, by rising ids; the table must not be changed on the way (B2).
func (t *Table[T]) All() iter.Seq2[int, T] {
	return func(yield func(int, T) bool) {
		for _, r := range t.rows {
			if !yield(r.id, r.thing) {
				return
			}
		}
	}
}

func (t *Table[T]) find(id int) (int, bool) {
	return slices.BinarySearchFunc(t.rows, id, func(r row[T], id int) int {
		return cmp.Compare(r.id, id)
	})
}
