package mail_test

import (
	"errors"
	"testing"

	"embrasure/mail"
)

// datagram is a thing of more than one field, as the server's boxes have them.
type datagram struct {
	peer  int
	bytes string
}

// ofType asks all of a box of three: a, b and c must not be the same.
func ofType[T comparable](t *testing.T, a, b, c T) {
	t.Helper()
	x := mail.New[T](3)
	empty(t, x)
	put(t, x, true, a, b)
	takes(t, x, a)
	put(t, x, true, c, a)
	put(t, x, false, b)
	counts(t, x, 3, 1)
	takes(t, x, b)
	drains(t, x, c, a)
	counts(t, x, 0, 1)
}

func TestTypes(t *testing.T) {
	ofType(t, 1, 2, 3)
	ofType(t, uint16(65535), 0, 1)
	ofType(t, "", "a", "b")
	ofType(t, datagram{1, "a"}, datagram{2, "a"}, datagram{1, "b"})
	ofType(t, [2]int{1, 2}, [2]int{2, 1}, [2]int{})
	ofType(t, new(1), new(1), nil)
	ofType(t, make(chan int), make(chan int), nil)
	ofType[any](t, 1, "a", nil)
	ofType(t, errors.New("a"), errors.New("a"), nil)
	ofType(t, mail.New[int](1), mail.New[int](1), nil)
}

// Of things without bytes, all are the same: only their number tells.
func TestThingsWithoutBytes(t *testing.T) {
	b := mail.New[struct{}](2)
	empty(t, b)
	put(t, b, true, struct{}{}, struct{}{})
	put(t, b, false, struct{}{})
	counts(t, b, 2, 1)
	takes(t, b, struct{}{})
	drains(t, b, struct{}{})
}

// A thing that is greater than all that a channel holds by itself, and the room for as many as there may be.
func TestGreatThings(t *testing.T) {
	type great [1 << 17]byte
	ofType(t, great{1}, great{2}, great{1<<17 - 1: 3})
	b := mail.New[great](4096)
	put(t, b, true, great{4})
	counts(t, b, 1, 0)
	drains(t, b, great{4})
}

// Things that can't be held against each other: lists of bytes, and functions.
func TestListsAndFunctions(t *testing.T) {
	lists := mail.New[[]byte](2)
	if x, ok := lists.Take(); x != nil || ok {
		t.Errorf("%v %v", x, ok)
	}
	put(t, lists, true, []byte("a"), nil)
	put(t, lists, false, []byte("b"))
	if l := lists.Drain(); len(l) != 2 || string(l[0]) != "a" || l[1] != nil {
		t.Errorf("%q", l)
	}
	calls := mail.New[func() int](1)
	put(t, calls, true, func() int { return 7 })
	put(t, calls, false, nil)
	if f, ok := calls.Take(); !ok || f() != 7 {
		t.Error("another function")
	}
	if f, ok := calls.Take(); f != nil || ok {
		t.Errorf("a function of none: %v", ok)
	}
}

// What was put is what the thing was then: who put it may write over its own.
func TestThingsAreCopied(t *testing.T) {
	b := mail.New[[2]int](3)
	x := [2]int{1, 2}
	put(t, b, true, x)
	x[0] = 3
	put(t, b, true, x)
	x[1] = 4
	takes(t, b, [2]int{1, 2})
	drains(t, b, [2]int{3, 2})
}
