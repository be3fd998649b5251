package degree_test

import (
	"math"
	"math/rand"
	"slices"
	"testing"

	"sharecore/api"
	"sharecore/degree"
	"sharecore/field"
	"sharecore/tape"
)

// coefs returns the events for the coefficients of n ones from the index k on.
func coefs(n, k int) []api.Event {
	var l []api.Event
	for i := range n {
		if i >= k {
			l = append(l, api.Event{Kind: api.Coef, A: i})
		}
	}
	return l
}

// pairs returns the events for the pairs of n positions, without those of equal
// positions if they are to be different.
func pairs(n int, different bool) []api.Event {
	var l []api.Event
	for i := range n {
		for k := range n {
			if i != k || !different {
				l = append(l, api.Event{Kind: api.Pair, A: i, B: k})
			}
		}
	}
	return l
}

// batchEvents returns the events of power.Batch for n elements.
func batchEvents(n int) []api.Event {
	if n == 0 {
		return nil
	}
	l := coefs(n, 0)
	for window := 63; window >= 0; window-- {
		l = append(l, api.Event{Kind: api.Step, A: window})
		for k := range 16 {
			l = append(l, api.Event{Kind: api.Scan, A: k})
		}
	}
	back := coefs(n, 0)
	slices.Reverse(back)
	return append(l, back...)
}

// fitsEvents returns the events of Fits for n points and k coefficients.
func fitsEvents(n, k int) []api.Event {
	return slices.Concat(pairs(n, true), batchEvents(n), pairs(n, false), coefs(n, k))
}

// allEvents returns the events of All for several lists.
func allEvents(lists, n, k int) []api.Event {
	var l []api.Event
	for i := range lists {
		l = append(l, api.Event{Kind: api.Chunk, A: i})
		l = append(l, fitsEvents(n, k)...)
	}
	return l
}

// checkEvents checks that a call appends events to what a tape already has, and
// that its results are the same without a tape.
func checkEvents(t *testing.T, want []api.Event, name string, call func(*tape.Tape) (uint64, api.Errno)) {
	t.Helper()
	first := api.Event{Kind: api.Deal, A: -1, B: 7}
	x := tape.New(first)
	result, e := call(x)
	if at := tape.First(x, tape.New(slices.Concat([]api.Event{first}, want)...)); at >= 0 {
		t.Errorf("%s: the events differ from the index %d on; there are %d instead of %d new ones", name, at, x.Len()-1, len(want))
	}
	if without, g := call(nil); e != api.OK || g != api.OK || result != without {
		t.Errorf("%s: the results with and without a tape are %x and %x, and the errors %v and %v", name, result, without, e, g)
	}
}

// checkAllEvents checks the events of all functions, for lists of which the last one is ys.
func checkAllEvents(t *testing.T, f field.Field, xs []int, ys []api.Element, k int) {
	t.Helper()
	n := len(xs)
	checkEvents(t, coefs(n, k), "Below", func(u *tape.Tape) (uint64, api.Errno) {
		return degree.Below(u, ys, k), api.OK
	})
	checkEvents(t, fitsEvents(n, k), "Fits", func(u *tape.Tape) (uint64, api.Errno) {
		return degree.Fits(u, f, xs, ys, k)
	})
	reversed := slices.Clone(ys)
	slices.Reverse(reversed)
	lists := [][]api.Element{make([]api.Element, n), reversed, ys}
	for m := range len(lists) + 1 {
		checkEvents(t, allEvents(m, n, k), "All", func(u *tape.Tape) (uint64, api.Errno) {
			return degree.All(u, f, xs, lists[len(lists)-m:], k)
		})
	}
}

// The events of the chapter, which are the same whatever the points and the elements
// are, and whether the values fit.
func TestEvents(t *testing.T) {
	r := rand.New(rand.NewSource(21))
	for _, f := range fields(t) {
		for _, n := range []int{0, 1, 2, 3, 5} {
			for _, k := range limits(n) {
				checkAllEvents(t, f.Field, upTo(n), make([]api.Element, n), k)
				checkAllEvents(t, f.Field, indices(r, n), f.random(r, n), k)
			}
		}
		checkAllEvents(t, f.Field, indices(r, 65), f.random(r, 65), 64)
		checkAllEvents(t, f.Field, upTo(255), f.random(r, 255), 10)
	}
}

// The events of Below for more elements than there can be points.
func TestEventsOfLongLists(t *testing.T) {
	r := rand.New(rand.NewSource(22))
	for _, f := range fields(t) {
		for _, n := range []int{256, 300, 1000} {
			for _, k := range []int{math.MinInt, -1, 0, 1, 255, n - 1, n, n + 1, math.MaxInt} {
				for _, c := range [][]api.Element{f.random(r, n), make([]api.Element, n)} {
					checkEvents(t, coefs(n, k), "Below", func(u *tape.Tape) (uint64, api.Errno) {
						return degree.Below(u, c, k), api.OK
					})
				}
			}
		}
	}
}

// The events of All for more lists than there are points.
func TestEventsOfManyLists(t *testing.T) {
	for _, f := range fields(t) {
		lists := slices.Repeat([][]api.Element{f.list(5, 7, 10), f.list(5, 7, 9)}, 40)
		checkEvents(t, allEvents(80, 3, 2), "All", func(u *tape.Tape) (uint64, api.Errno) {
			return degree.All(u, f.Field, []int{1, 2, 3}, lists, 2)
		})
	}
}

// Several calls record one after the other on the same tape, and calls that return
// errors nothing in between.
func TestEventsOfSeveralCalls(t *testing.T) {
	for _, f := range fields(t) {
		xs, ys := []int{9, 200, 31}, f.list(4, -1, 7)
		want := slices.Concat(fitsEvents(3, 1), allEvents(2, 3, 2), coefs(3, 0))
		checkEvents(t, want, "several calls", func(u *tape.Tape) (uint64, api.Errno) {
			fits, e := degree.Fits(u, f.Field, xs, ys, 1)
			degree.Fits(u, f.Field, xs, ys[:2], 1)
			degree.All(u, f.Field, xs, [][]api.Element{ys, ys}, 2)
			degree.All(u, f.Field, xs, [][]api.Element{ys, ys[:2]}, 2)
			degree.All(u, f.Field, []int{9, 200, 9}, [][]api.Element{ys}, 2)
			degree.Below(u, ys, -5)
			return fits, e
		})
	}
}

// Fields and elements for which nothing is specified do not make a call panic,
// and do not show in the events.
func TestOtherArguments(t *testing.T) {
	greatest := api.Vec{ones, ones, ones, ones}
	l := []api.Element{{}, {1}, api.Element(greatest)}
	for _, f := range append([]arithmetic{{}, {Field: field.Field{ID: -1, Modulus: greatest, Inverse: ones}}}, fields(t)...) {
		for n := range len(l) + 1 {
			checkAllEvents(t, f.Field, []int{255, 1, 128}[:n], l[:n], 1)
		}
	}
}
