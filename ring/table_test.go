package ring_test

import (
	"maps"
	"math"
	"slices"
	"testing"

	"embrasure/api"
	"embrasure/ring"
)

type pair struct {
	id    int
	thing string
}

func pairs(t *ring.Table[string]) []pair {
	var l []pair
	for id, x := range t.All() {
		l = append(l, pair{id, x})
	}
	return l
}

// has holds a table against what must be in it, by each of its calls that tell.
func has(t *testing.T, x *ring.Table[string], want ...pair) {
	t.Helper()
	if got := pairs(x); !slices.Equal(got, want) {
		t.Errorf("All: %v, not %v", got, want)
	}
	if x.Len() != len(want) {
		t.Errorf("Len %d, not %d", x.Len(), len(want))
	}
	for _, p := range want {
		if s, is := x.Get(p.id); s != p.thing || !is {
			t.Errorf("Get %d: %q %v", p.id, s, is)
		}
	}
}

func add(t *testing.T, x *ring.Table[string], thing string, id int, e api.Errno) {
	t.Helper()
	if got, err := x.Add(thing); got != id || err != e {
		t.Errorf("Add %s: %d %v, not %d %v", thing, got, err, id, e)
	}
}

// filled is a table of at most most, with things by the ids 1, 2, 3 and so on.
func filled(t *testing.T, most int, things ...string) *ring.Table[string] {
	t.Helper()
	x := ring.NewTable[string](most)
	for i, s := range things {
		add(t, x, s, i+1, api.OK)
	}
	return x
}

func TestNewTableIsEmpty(t *testing.T) {
	for _, most := range []int{math.MinInt, -1, 0, 1, 5, math.MaxInt} {
		x := ring.NewTable[string](most)
		has(t, x)
		add(t, x, "a", 1, api.OK)
		has(t, x, pair{1, "a"})
	}
}

func TestAddUntilFull(t *testing.T) {
	for _, most := range []int{math.MinInt, -1, 0, 1, 2, 5} {
		x := ring.NewTable[string](most)
		var want []pair
		for id := 1; id <= max(most, 1); id++ {
			add(t, x, "a", id, api.OK)
			want = append(want, pair{id, "a"})
		}
		for range 3 {
			add(t, x, "b", 0, api.ErrFull)
			has(t, x, want...)
		}
	}
}

// An Add that is refused uses up no id.
func TestNextIdBehindDrop(t *testing.T) {
	x := filled(t, 2, "a", "b")
	add(t, x, "c", 0, api.ErrFull)
	x.Drop(2)
	add(t, x, "c", 3, api.OK)
	add(t, x, "d", 0, api.ErrFull)
	has(t, x, pair{1, "a"}, pair{3, "c"})
	x.Drop(1)
	x.Drop(3)
	has(t, x)
	add(t, x, "e", 4, api.OK)
	has(t, x, pair{4, "e"})
}

func TestOneAtATime(t *testing.T) {
	x := ring.NewTable[string](1)
	for id := 1; id < 100; id++ {
		add(t, x, "a", id, api.OK)
		add(t, x, "b", 0, api.ErrFull)
		has(t, x, pair{id, "a"})
		if !x.Drop(id) {
			t.Fatalf("Drop %d: it was not there", id)
		}
	}
}

func TestIdsThatAreNotThere(t *testing.T) {
	x := filled(t, 4, "a", "b", "c", "d")
	x.Drop(1)
	x.Drop(3)
	left := []pair{{2, "b"}, {4, "d"}}
	for _, id := range []int{math.MinInt, -1, 0, 1, 3, 5, 6, math.MaxInt} {
		if s, is := x.Get(id); s != "" || is {
			t.Errorf("Get %d: %q %v", id, s, is)
		}
		if x.Put(id, "z") {
			t.Errorf("Put %d: it was there", id)
		}
		has(t, x, left...)
		if x.Drop(id) {
			t.Errorf("Drop %d: it was there", id)
		}
		has(t, x, left...)
	}
	add(t, x, "e", 5, api.OK)
	has(t, x, pair{2, "b"}, pair{4, "d"}, pair{5, "e"})
}

func TestPutInEachPlace(t *testing.T) {
	for id := 1; id <= 3; id++ {
		x, want := filled(t, 3, "a", "b", "c"), []pair{{1, "a"}, {2, "b"}, {3, "c"}}
		if !x.Put(id, "z") || !x.Put(id, "y") {
			t.Errorf("Put %d: it was not there", id)
		}
		want[id-1].thing = "y"
		has(t, x, want...)
		add(t, x, "d", 0, api.ErrFull)
	}
}

func TestDropOfEachPlace(t *testing.T) {
	for id := 1; id <= 3; id++ {
		x, want := filled(t, 3, "a", "b", "c"), []pair{{1, "a"}, {2, "b"}, {3, "c"}}
		if !x.Drop(id) || x.Drop(id) {
			t.Errorf("Drop %d: there once, and no more", id)
		}
		if s, is := x.Get(id); s != "" || is {
			t.Errorf("Get %d: %q %v", id, s, is)
		}
		if x.Put(id, "z") {
			t.Errorf("Put %d: it was there", id)
		}
		has(t, x, slices.Delete(want, id-1, id)...)
	}
}

func TestTableAllTwiceAndStopped(t *testing.T) {
	x := filled(t, 9, "a", "b", "c", "d")
	x.Drop(2)
	want := []int{1, 3, 4}
	all := x.All()
	for stop := range want {
		var got []int
		for id := range all {
			got = append(got, id)
			if len(got) > stop {
				break
			}
		}
		if !slices.Equal(got, want[:stop+1]) {
			t.Errorf("stopped behind %d: %v", stop+1, got)
		}
	}
	for range 2 {
		if got := maps.Collect(all); !maps.Equal(got, map[int]string{1: "a", 3: "c", 4: "d"}) {
			t.Errorf("%v", got)
		}
	}
	has(t, x, pair{1, "a"}, pair{3, "c"}, pair{4, "d"})
}

// Against a map and a count, over a run in which ids come and go in all orders.
func TestTableLongRun(t *testing.T) {
	x, model, next := ring.NewTable[string](7), map[int]string{}, 1
	for step := range 5000 {
		id := next - step*7%13
		thing := string(rune('a' + step%26))
		switch step * 5 % 11 % 4 {
		case 0, 1:
			if len(model) == 7 {
				add(t, x, thing, 0, api.ErrFull)
				break
			}
			add(t, x, thing, next, api.OK)
			model[next], next = thing, next+1
		case 2:
			_, was := model[id]
			if x.Put(id, thing) != was {
				t.Fatalf("step %d: Put %d", step, id)
			}
			if was {
				model[id] = thing
			}
		case 3:
			_, was := model[id]
			if x.Drop(id) != was {
				t.Fatalf("step %d: Drop %d", step, id)
			}
			delete(model, id)
		}
		var want []pair
		for _, id := range slices.Sorted(maps.Keys(model)) {
			want = append(want, pair{id, model[id]})
		}
		has(t, x, want...)
		if t.Failed() {
			t.Fatalf("step %d", step)
		}
	}
	if next < 100 {
		t.Errorf("the run gave out but %d ids", next-1)
	}
}

func TestTablesStandAlone(t *testing.T) {
	a, b := filled(t, 2, "a"), filled(t, 2, "b")
	a.Drop(1)
	has(t, b, pair{1, "b"})
}
