package lagrange_test

import (
	"math/rand"
	"slices"
	"testing"

	"sharecore/api"
	"sharecore/field"
	"sharecore/lagrange"
	"sharecore/tape"
)

// coefs returns the events for n elements in ascending order.
func coefs(n int) []api.Event {
	var l []api.Event
	for i := range n {
		l = append(l, api.Event{Kind: api.Coef, A: i})
	}
	return l
}

// batchEvents returns the events of power.Batch for n elements.
func batchEvents(n int) []api.Event {
	if n == 0 {
		return nil
	}
	l := coefs(n)
	for window := 63; window >= 0; window-- {
		l = append(l, api.Event{Kind: api.Step, A: window})
		for k := range 16 {
			l = append(l, api.Event{Kind: api.Scan, A: k})
		}
	}
	back := coefs(n)
	slices.Reverse(back)
	return append(l, back...)
}

// pairs returns the events for the pairs of n positions, without those of equal
// positions if they are to be different.
func pairs(n int, different bool) []api.Event {
	var l []api.Event
	for i := range n {
		for k := range n {
			if i != k || !different {
				l = append(l, api.Event{Kind: api.Pair, A: i, B: k})
			}
		}
	}
	return l
}

// The events of the functions for n points, or elements.
func weightsEvents(n int) []api.Event { return slices.Concat(pairs(n, true), batchEvents(n)) }

func zeroEvents(n int) []api.Event { return slices.Concat(weightsEvents(n), coefs(n)) }

func interpolateEvents(n int) []api.Event { return slices.Concat(weightsEvents(n), pairs(n, false)) }

// checkEvents checks that a call appends events to what a tape already has, and
// that its results are the same without a tape.
func checkEvents(t *testing.T, want []api.Event, name string, call func(*tape.Tape) ([]api.Element, api.Errno)) {
	t.Helper()
	first := api.Event{Kind: api.Deal, A: -1, B: 7}
	x := tape.New(first)
	result, e := call(x)
	if at := tape.First(x, tape.New(slices.Concat([]api.Event{first}, want)...)); at >= 0 {
		t.Errorf("%s: the events differ from the index %d on; there are %d instead of %d new ones", name, at, x.Len()-1, len(want))
	}
	if without, g := call(nil); e != api.OK || g != api.OK || !slices.Equal(result, without) {
		t.Errorf("%s: the results with and without a tape are %x and %x, and the errors %v and %v", name, result, without, e, g)
	}
}

// checkAllEvents checks the events of all functions.
func checkAllEvents(t *testing.T, f field.Field, xs []int, ys []api.Element) {
	t.Helper()
	n := len(xs)
	checkEvents(t, weightsEvents(n), "Weights", func(u *tape.Tape) ([]api.Element, api.Errno) {
		return lagrange.Weights(u, f, xs)
	})
	checkEvents(t, zeroEvents(n), "Zero", func(u *tape.Tape) ([]api.Element, api.Errno) {
		return lagrange.Zero(u, f, xs)
	})
	checkEvents(t, interpolateEvents(n), "Interpolate", func(u *tape.Tape) ([]api.Element, api.Errno) {
		return lagrange.Interpolate(u, f, xs, ys)
	})
	checkEvents(t, coefs(n), "Dot", func(u *tape.Tape) ([]api.Element, api.Errno) {
		x, e := lagrange.Dot(u, f, ys, ys)
		return []api.Element{x}, e
	})
}

// P9.5, and the events of the chapter: for many numbers of points, whatever the
// points and the elements are.
func TestEvents(t *testing.T) {
	r := rand.New(rand.NewSource(15))
	for _, f := range fields(t) {
		for _, n := range []int{0, 1, 2, 3, 4, 5, 16, 63, 64, 65, 255} {
			checkAllEvents(t, f.Field, upTo(n), make([]api.Element, n))
			for range 2 {
				checkAllEvents(t, f.Field, indices(r, n), f.random(r, n))
			}
		}
	}
}

// The events of Dot for more elements than there can be points.
func TestEventsOfLongLists(t *testing.T) {
	r := rand.New(rand.NewSource(16))
	for _, f := range fields(t) {
		for _, n := range []int{256, 300, 1000} {
			a, b := f.random(r, n), make([]api.Element, n)
			checkEvents(t, coefs(n), "Dot", func(u *tape.Tape) ([]api.Element, api.Errno) {
				x, e := lagrange.Dot(u, f.Field, a, b)
				return []api.Element{x}, e
			})
		}
	}
}

// Several calls record one after the other on the same tape, and calls that return
// errors nothing in between.
func TestEventsOfSeveralCalls(t *testing.T) {
	for _, f := range fields(t) {
		xs, ys := []int{9, 200, 31}, f.list(4, -1, 7)
		want := slices.Concat(interpolateEvents(3), zeroEvents(2), coefs(3), weightsEvents(3))
		checkEvents(t, want, "several calls", func(u *tape.Tape) ([]api.Element, api.Errno) {
			c, e := lagrange.Interpolate(u, f.Field, xs, ys)
			lagrange.Interpolate(u, f.Field, xs, ys[:2])
			lagrange.Zero(u, f.Field, xs[:2])
			lagrange.Zero(u, f.Field, []int{1, 2, 1})
			lagrange.Dot(u, f.Field, c, ys)
			lagrange.Dot(u, f.Field, c, ys[:1])
			lagrange.Weights(u, f.Field, xs)
			lagrange.Weights(u, f.Field, []int{3, 0})
			return c, e
		})
	}
}

// Fields and elements for which nothing is specified do not make a call panic,
// and do not show in the events.
func TestOtherArguments(t *testing.T) {
	greatest := api.Vec{ones, ones, ones, ones}
	l := []api.Element{{}, {1}, api.Element(greatest)}
	for _, f := range append([]arithmetic{{}, {Field: field.Field{ID: -1, Modulus: greatest, Inverse: ones}}}, fields(t)...) {
		for n := range len(l) + 1 {
			checkAllEvents(t, f.Field, []int{255, 1, 128}[:n], l[:n])
		}
	}
}
