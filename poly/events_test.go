package poly_test

import (
	"math/rand"
	"slices"
	"testing"

	"sharecore/api"
	"sharecore/field"
	"sharecore/poly"
	"sharecore/tape"
)

// upward returns the events for n coefficients in ascending order.
func upward(n int) []api.Event {
	var l []api.Event
	for i := range n {
		l = append(l, api.Event{Kind: api.Coef, A: i})
	}
	return l
}

// downward returns the events for n coefficients in descending order.
func downward(n int) []api.Event {
	l := upward(n)
	slices.Reverse(l)
	return l
}

// pairs returns the events for the pairs of n and m coefficients.
func pairs(n, m int) []api.Event {
	var l []api.Event
	for i := range n {
		for k := range m {
			l = append(l, api.Event{Kind: api.Pair, A: i, B: k})
		}
	}
	return l
}

// checkEvents checks that a call appends events to what a tape already has, and
// that its result is the same without a tape.
func checkEvents(t *testing.T, want []api.Event, name string, call func(*tape.Tape) []api.Element) {
	t.Helper()
	first := api.Event{Kind: api.Deal, A: -1, B: 7}
	x := tape.New(first)
	result := call(x)
	if at := tape.First(x, tape.New(slices.Concat([]api.Event{first}, want)...)); at >= 0 {
		t.Errorf("%s: the events differ from the index %d on; there are %d instead of %d new ones", name, at, x.Len()-1, len(want))
	}
	if without := call(nil); !slices.Equal(result, without) {
		t.Errorf("%s: the results with and without a tape are %x and %x", name, result, without)
	}
}

// checkAllEvents checks the events of all functions.
func checkAllEvents(t *testing.T, f field.Field, a, b []api.Element, x api.Element) {
	t.Helper()
	checkEvents(t, downward(len(a)), "Eval", func(u *tape.Tape) []api.Element {
		return []api.Element{poly.Eval(u, f, a, x)}
	})
	checkEvents(t, upward(max(len(a), len(b))), "Add", func(u *tape.Tape) []api.Element {
		return poly.Add(u, f, a, b)
	})
	checkEvents(t, upward(len(a)), "Scale", func(u *tape.Tape) []api.Element {
		return poly.Scale(u, f, a, x)
	})
	checkEvents(t, pairs(len(a), len(b)), "Mul", func(u *tape.Tape) []api.Element {
		return poly.Mul(u, f, a, b)
	})
	checkEvents(t, downward(len(a)), "Quotient", func(u *tape.Tape) []api.Element {
		quotient, rest := poly.Quotient(u, f, a, x)
		return append(quotient, rest)
	})
}

// P8.4, and the events of the chapter: for all short lengths and for long lists,
// whatever the elements are.
func TestEvents(t *testing.T) {
	r := rand.New(rand.NewSource(10))
	lengths := []int{0, 1, 2, 3, 4, 63, 64, 65, 255}
	for _, f := range fields(t) {
		for _, n := range lengths {
			for _, m := range lengths {
				if n*m > 65*65 {
					continue
				}
				checkAllEvents(t, f.Field, make([]api.Element, n), make([]api.Element, m), api.Element{})
				checkAllEvents(t, f.Field, f.polynomial(r, n), f.polynomial(r, m), f.random(r))
				checkAllEvents(t, f.Field, f.polynomial(r, n), f.polynomial(r, m), f.One)
			}
		}
	}
}

// P8.4: several calls record one after the other on the same tape.
func TestEventsOfSeveralCalls(t *testing.T) {
	for _, f := range fields(t) {
		a, b := f.list(1, 2, 3), f.list(4, 5)
		want := slices.Concat(pairs(3, 2), downward(4), upward(3), downward(3), upward(4))
		checkEvents(t, want, "several calls", func(u *tape.Tape) []api.Element {
			product := poly.Mul(u, f.Field, a, b)
			x := poly.Eval(u, f.Field, product, f.One)
			multiple := poly.Scale(u, f.Field, a, x)
			_, rest := poly.Quotient(u, f.Field, multiple, x)
			return append(poly.Add(u, f.Field, product, b), rest)
		})
	}
}

// Fields and elements for which nothing is specified do not make a call panic,
// and do not show in the events.
func TestOtherArguments(t *testing.T) {
	greatest := api.Vec{ones, ones, ones, ones}
	l := []api.Element{{}, {1}, api.Element(greatest)}
	for _, f := range append([]arithmetic{{}, {Field: field.Field{ID: -1, Modulus: greatest, Inverse: ones}}}, fields(t)...) {
		for n := range len(l) + 1 {
			for _, x := range l {
				checkAllEvents(t, f.Field, l[:n], l, x)
				checkAllEvents(t, f.Field, l, l[n:], x)
			}
		}
	}
}
