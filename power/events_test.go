package power_test

import (
	"slices"
	"testing"

	"sharecore/api"
	"sharecore/field"
	"sharecore/power"
	"sharecore/tape"
)

// powEvents returns the events of Pow as the chapter lists them.
func powEvents() []api.Event {
	var l []api.Event
	for i := 63; i >= 0; i-- {
		l = append(l, api.Event{Kind: api.Step, A: i})
		for k := 0; k <= 15; k++ {
			l = append(l, api.Event{Kind: api.Scan, A: k})
		}
	}
	return l
}

// batchEvents returns the events of Batch for a list of n elements.
func batchEvents(n int) []api.Event {
	if n == 0 {
		return nil
	}
	var up []api.Event
	for i := range n {
		up = append(up, api.Event{Kind: api.Coef, A: i})
	}
	down := slices.Clone(up)
	slices.Reverse(down)
	return slices.Concat(up, powEvents(), down)
}

// checkEvents checks that a call appends events to what a tape already has, and
// that its result is the same without a tape.
func checkEvents(t *testing.T, want []api.Event, name string, call func(*tape.Tape) []api.Element) {
	t.Helper()
	first := api.Event{Kind: api.Deal, A: -1, B: 7}
	x := tape.New(first)
	result := call(x)
	if at := tape.First(x, tape.New(slices.Concat([]api.Event{first}, want)...)); at >= 0 {
		t.Errorf("%s: the events differ from the index %d on; there are %d instead of %d new ones", name, at, x.Len()-1, len(want))
	}
	if without := call(nil); !slices.Equal(result, without) {
		t.Errorf("%s: the results with and without a tape are %x and %x", name, result, without)
	}
}

// P6.4, and the events of the chapter: whatever the element and the exponent are.
func TestEventsOfPow(t *testing.T) {
	want := powEvents()
	for _, f := range fields(t) {
		l := f.elements(5)
		for i, e := range f.exponents(5) {
			for _, x := range []api.Element{{}, f.One, l[i%len(l)]} {
				checkEvents(t, want, "Pow", func(u *tape.Tape) []api.Element {
					return []api.Element{power.Pow(u, f.Field, x, e)}
				})
			}
		}
	}
}

// P6.4: the events of Inverse are those of Pow, also for the element 0.
func TestEventsOfInverse(t *testing.T) {
	want := powEvents()
	for _, f := range fields(t) {
		for _, x := range f.elements(10) {
			checkEvents(t, want, "Inverse", func(u *tape.Tape) []api.Element {
				return []api.Element{power.Inverse(u, f.Field, x)}
			})
		}
	}
}

// P6.4: the events of Batch depend on the length of the list only.
func TestEventsOfBatch(t *testing.T) {
	for _, f := range fields(t) {
		for _, n := range []int{0, 1, 2, 3, 16, 70, 255} {
			others := f.elements(n)
			for _, l := range [][]api.Element{make([]api.Element, n), others[:n], others[len(others)-n:]} {
				checkEvents(t, batchEvents(n), "Batch", func(u *tape.Tape) []api.Element {
					return power.Batch(u, f.Field, l)
				})
			}
		}
	}
}

// P6.4: several calls record one after the other on the same tape.
func TestEventsOfSeveralCalls(t *testing.T) {
	for _, f := range fields(t) {
		l := f.elements(0)[:3]
		want := slices.Concat(powEvents(), batchEvents(3), powEvents())
		checkEvents(t, want, "several calls", func(u *tape.Tape) []api.Element {
			x := power.Pow(u, f.Field, l[1], api.Vec{5})
			return append(power.Batch(u, f.Field, l), x, power.Inverse(u, f.Field, l[2]))
		})
	}
}

// Fields and elements for which nothing is specified do not make a call panic,
// and do not show in the events.
func TestOtherArguments(t *testing.T) {
	greatest := api.Vec{ones, ones, ones, ones}
	l := []api.Element{{}, {1}, api.Element(greatest)}
	for _, f := range append([]arithmetic{{}, {Field: field.Field{ID: -1, Modulus: greatest, Inverse: ones}}}, fields(t)...) {
		for _, x := range l {
			checkEvents(t, powEvents(), "Pow", func(u *tape.Tape) []api.Element {
				return []api.Element{power.Pow(u, f.Field, x, greatest)}
			})
			checkEvents(t, powEvents(), "Inverse", func(u *tape.Tape) []api.Element {
				return []api.Element{power.Inverse(u, f.Field, x)}
			})
		}
		checkEvents(t, batchEvents(len(l)), "Batch", func(u *tape.Tape) []api.Element {
			return power.Batch(u, f.Field, l)
		})
	}
}
