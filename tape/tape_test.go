package tape_test

import (
	"math"
	"slices"
	"testing"

	"sharecore/api"
	"sharecore/tape"
)

func event(kind, a, b int) api.Event { return api.Event{Kind: kind, A: a, B: b} }

// numbered returns n different events, of the kinds 0 to 6.
func numbered(n int) []api.Event {
	l := make([]api.Event, n)
	for i := range l {
		l[i] = event(i%7, i, -2*i)
	}
	return l
}

// lengths returns numbers of events around those at which blocks begin and end.
func lengths() []int {
	return []int{0, 1, 2, 7, 31, 32, 33, 63, 64, 65, 127, 128, 129, 191, 192, 193, 255, 256, 257, 1000, 1023, 1024, 1025, 5000}
}

// positions returns numbers around the begin and the end of a tape with n events, and around its blocks.
func positions(n int) []int {
	return append(lengths(), math.MinInt, math.MinInt+1, -n, -65, -64, -1, n-1, n, n+1, 2*n, 1<<32, 1<<32+1, math.MaxInt-1, math.MaxInt)
}

func checkEvents(t *testing.T, got, want []api.Event, call string) {
	t.Helper()
	if !slices.Equal(got, want) {
		t.Errorf("%s: %d events instead of %d, or others", call, len(got), len(want))
	}
}

// checkTape checks all events of a tape.
func checkTape(t *testing.T, x *tape.Tape, want []api.Event, call string) {
	t.Helper()
	if x.Len() != len(want) {
		t.Errorf("%s: Len is %d instead of %d", call, x.Len(), len(want))
	}
	checkEvents(t, x.Events(), want, call)
}

func checkNumber(t *testing.T, got, want int, call string) {
	t.Helper()
	if got != want {
		t.Errorf("%s is %d instead of %d", call, got, want)
	}
}

// The examples of the chapter.
func TestExamples(t *testing.T) {
	x := tape.New()
	x.Note(1, 2, 3)
	x.Note(4, 5, 6)
	checkNumber(t, x.Len(), 2, "Len")
	checkNumber(t, x.Count(4), 1, "Count(4)")
	checkEvents(t, x.Since(1), []api.Event{{Kind: 4, A: 5, B: 6}}, "Since(1)")
	checkNumber(t, tape.First(x, tape.New(x.Events()[0])), 1, "First")
}

// P2.1
func TestNew(t *testing.T) {
	for _, n := range lengths() {
		l := numbered(n)
		checkTape(t, tape.New(l...), l, "New")
	}
	if tape.New() == nil || tape.New([]api.Event{}...) == nil {
		t.Error("New without events returns the nil tape")
	}
}

// P2.1: events are appended to those of New, and to those noted before.
func TestNote(t *testing.T) {
	for _, n := range lengths() {
		want := numbered(n)
		x := tape.New(want...)
		for i := range 150 {
			x.Note(-i, i, 3*i)
			want = append(want, event(-i, i, 3*i))
			checkNumber(t, x.Len(), n+i+1, "Len")
		}
		checkTape(t, x, want, "Note")
	}
}

// P2.1: the kind and the operands may be any numbers, and equal events are events of their own.
func TestAnyNumbers(t *testing.T) {
	numbers := []int{math.MinInt, math.MinInt + 1, math.MinInt32, -1, 0, 1, api.Step, api.Step + 1, math.MaxInt32, 1 << 32, math.MaxInt - 1, math.MaxInt}
	var want []api.Event
	x := tape.New()
	for _, kind := range numbers {
		for _, a := range numbers {
			for _, b := range numbers {
				x.Note(kind, a, b)
				x.Note(kind, a, b)
				want = append(want, event(kind, a, b), event(kind, a, b))
			}
		}
	}
	checkTape(t, x, want, "Note")
	checkTape(t, tape.New(want...), want, "New")
	for _, kind := range numbers {
		checkNumber(t, x.Count(kind), 2*len(numbers)*len(numbers), "Count")
	}
}

// P2.1: a tape keeps its events when the list given to New is modified, of which New reads no more than its length.
func TestNewCopies(t *testing.T) {
	for _, n := range lengths() {
		l := numbered(n + 3)
		x := tape.New(l[:n]...)
		checkEvents(t, l, numbered(n+3), "the argument of New")
		clear(l)
		checkTape(t, x, numbered(n), "New of a list that is modified later")
		x.Note(1, 2, 3)
		checkEvents(t, l, make([]api.Event, n+3), "the argument of New after Note")
	}
}

// P2.2
func TestLenAndCount(t *testing.T) {
	for _, n := range lengths() {
		l := numbered(n)
		x := tape.New(l...)
		checkNumber(t, x.Len(), n, "Len")
		for _, kind := range []int{math.MinInt, -1, 0, 1, 2, 3, 4, 5, 6, 7, n, math.MaxInt} {
			want := 0
			for _, e := range l {
				if e.Kind == kind {
					want++
				}
			}
			checkNumber(t, x.Count(kind), want, "Count")
		}
	}
}

// P2.2: unused places of a tape are no events of the kind 0, and operands are no kinds.
func TestCountOfOthers(t *testing.T) {
	x := tape.New()
	checkNumber(t, x.Count(0), 0, "Count of no events")
	x.Note(5, 9, 8)
	for _, kind := range []int{0, 8, 9, -5, 4, 6} {
		checkNumber(t, x.Count(kind), 0, "Count of another kind")
	}
	checkNumber(t, x.Count(5), 1, "Count(5)")
}

// P2.2
func TestSince(t *testing.T) {
	for _, length := range lengths() {
		l := numbered(length)
		x := tape.New(l...)
		for _, n := range positions(length) {
			checkEvents(t, x.Since(n), l[min(max(n, 0), length):], "Since")
		}
	}
}

// P2.2: whatever is done to a result changes neither the tape nor other results, not even beyond its length.
func TestResultsAreNew(t *testing.T) {
	for _, length := range lengths() {
		l := numbered(length)
		x := tape.New(l...)
		for _, n := range []int{math.MinInt, 0, 1, 63, 64, length - 1, length, math.MaxInt} {
			want := l[min(max(n, 0), length):]
			other, all := x.Since(n), x.Events()
			wipe(x.Since(n))
			wipe(x.Events())
			checkEvents(t, other, want, "another result of Since")
			checkEvents(t, all, l, "another result of Events")
			checkTape(t, x, l, "a tape whose results are modified")
		}
	}
}

// wipe overwrites all that a list can reach.
func wipe(l []api.Event) {
	l = l[:cap(l)]
	for i := range l {
		l[i] = event(-9, -9, -9)
	}
}

// P2.2: a result, and what is appended to it, stays the same when the tape grows, and the tape does not show it.
func TestResultsStay(t *testing.T) {
	mark := event(-9, -9, -9)
	for _, length := range lengths() {
		l := numbered(length)
		for _, n := range []int{0, length - 1, length} {
			x, want := tape.New(l...), append(l[max(n, 0):length:length], mark)
			got := append(x.Since(n), mark)
			for range 100 {
				x.Note(1, 1, 1)
			}
			checkEvents(t, got, want, "Since before Note")
			checkNumber(t, x.Len(), length+100, "Len")
			checkNumber(t, x.Count(-9), 0, "Count of what was appended to a result")
		}
	}
}

// P2.3
func TestPlay(t *testing.T) {
	for _, m := range lengths() {
		for _, n := range lengths() {
			first, second := numbered(m), numbered(n + 10)[10:]
			x, y := tape.New(first...), tape.New(second...)
			checkNumber(t, x.Play(y), n, "Play")
			checkTape(t, x, slices.Concat(first, second), "Play")
			checkTape(t, y, second, "the tape that was played")
		}
	}
}

// P2.3: a tape that is played on itself is doubled.
func TestPlayItself(t *testing.T) {
	for _, n := range lengths() {
		want := numbered(n)
		x := tape.New(want...)
		for range 3 {
			checkNumber(t, x.Play(x), len(want), "Play of a tape on itself")
			want = slices.Concat(want, want)
			checkTape(t, x, want, "Play of a tape on itself")
		}
		x.Note(7, 8, 9)
		checkTape(t, x, append(want, event(7, 8, 9)), "Note after Play")
	}
}

// P2.3: both tapes are independent of each other afterwards.
func TestPlayCopies(t *testing.T) {
	for _, n := range lengths() {
		l := numbered(n)
		x, y := tape.New(), tape.New(l...)
		x.Play(y)
		y.Note(1, 1, 1)
		checkTape(t, x, l, "a tape after a note on the one played")
		x.Note(2, 2, 2)
		x.Note(3, 3, 3)
		checkTape(t, y, append(slices.Clone(l), event(1, 1, 1)), "the tape played after notes on the other one")
		checkTape(t, x, append(slices.Clone(l), event(2, 2, 2), event(3, 3, 3)), "a tape after notes on it")
	}
}

// P2.4: equal tapes, however they were made.
func TestEqualTapes(t *testing.T) {
	for _, n := range lengths() {
		l := numbered(n)
		x, y, z := tape.New(l...), tape.New(), tape.New()
		for _, e := range l {
			y.Note(e.Kind, e.A, e.B)
		}
		z.Play(tape.New(l[:n/3]...))
		z.Play(tape.New(l[n/3:]...))
		for _, a := range []*tape.Tape{x, y, z} {
			for _, b := range []*tape.Tape{x, y, z} {
				checkFirst(t, a, b, -1)
			}
		}
	}
}

// P2.4: a single number of a single event makes a difference.
func TestOneDifference(t *testing.T) {
	l := numbered(200)
	x := tape.New(l...)
	for i, e := range l {
		for _, d := range []int{-1, 1, math.MinInt} {
			for _, other := range []api.Event{event(e.Kind+d, e.A, e.B), event(e.Kind, e.A+d, e.B), event(e.Kind, e.A, e.B+d)} {
				m := slices.Clone(l)
				m[i] = other
				checkFirst(t, x, tape.New(m...), i)
				checkFirst(t, x, tape.New(m[:i+1]...), i)
			}
		}
	}
}

// P2.4: only the first of several differences counts, events in another order
// are other events, and the rest may be the same.
func TestFirstDifference(t *testing.T) {
	a, b, c := event(1, 2, 3), event(4, 5, 6), event(4, 5, 7)
	checkFirst(t, tape.New(a, b), tape.New(b, a), 0)
	checkFirst(t, tape.New(a, b, a), tape.New(a, c, a), 1)
	checkFirst(t, tape.New(b, a, a), tape.New(c, a, a), 0)
	checkFirst(t, tape.New(a, b, b, a), tape.New(a, c, b, b), 1)
	checkFirst(t, tape.New(a, a, a), tape.New(a, a, b), 2)
	checkFirst(t, tape.New(event(1, 2, 3)), tape.New(event(3, 2, 1)), 0)
	checkFirst(t, tape.New(event(1, 2, 3)), tape.New(event(1, 3, 2)), 0)
}

// P2.4: a tape differs from its beginnings after these, even if the next event has only zeros.
func TestFirstOfBeginning(t *testing.T) {
	l := make([]api.Event, 300)
	for _, n := range lengths() {
		for _, m := range lengths() {
			if m < n && n <= len(l) {
				checkFirst(t, tape.New(l[:n]...), tape.New(l[:m]...), m)
			}
		}
	}
}

// checkFirst checks First and Equal of two tapes in either order.
func checkFirst(t *testing.T, x, y *tape.Tape, want int) {
	t.Helper()
	checkNumber(t, tape.First(x, y), want, "First")
	checkNumber(t, tape.First(y, x), want, "First")
	if tape.Equal(x, y) != (want < 0) || tape.Equal(y, x) != (want < 0) {
		t.Errorf("Equal is %v where First is %d", tape.Equal(x, y), want)
	}
}

// P2.5: playing a tape on an empty one yields an equal tape.
func TestPlayOnEmpty(t *testing.T) {
	for _, n := range lengths() {
		x, y := tape.New(numbered(n)...), tape.New()
		y.Play(x)
		checkFirst(t, x, y, -1)
	}
}

// P2.5: the events before and after any moment make up all of them.
func TestBeforeAndAfter(t *testing.T) {
	l := numbered(300)
	for moment := range len(l) + 1 {
		x := tape.New(l[:moment]...)
		before, n := x.Events(), x.Len()
		for _, e := range l[moment:] {
			x.Note(e.Kind, e.A, e.B)
		}
		checkEvents(t, slices.Concat(before, x.Since(n)), x.Events(), "before and after a moment")
		checkTape(t, x, l, "after a moment")
	}
}

// The nil tape is empty, and nothing is appended to it.
func TestNilTape(t *testing.T) {
	var none *tape.Tape
	full := tape.New(numbered(100)...)
	none.Note(1, 2, 3)
	checkNumber(t, none.Play(full), 0, "Play on the nil tape")
	checkNumber(t, none.Play(none), 0, "Play of the nil tape on itself")
	checkNumber(t, none.Play(tape.New()), 0, "Play of an empty tape on the nil tape")
	checkTape(t, none, nil, "the nil tape")
	for _, n := range positions(0) {
		checkEvents(t, none.Since(n), nil, "Since of the nil tape")
		checkNumber(t, none.Count(n), 0, "Count of the nil tape")
	}
	checkNumber(t, full.Play(none), 0, "Play of the nil tape")
	checkTape(t, full, numbered(100), "a tape after Play of the nil tape")
	checkFirst(t, none, none, -1)
	checkFirst(t, none, tape.New(), -1)
	checkFirst(t, none, full, 0)
}

// P2 of the document: tapes that were created separately are independent.
func TestIndependentTapes(t *testing.T) {
	l := numbered(70)
	x, y, z := tape.New(l...), tape.New(l...), tape.New()
	x.Note(1, 2, 3)
	checkTape(t, y, l, "a tape after a note on another one")
	checkTape(t, z, nil, "an empty tape after a note on another one")
	z.Note(4, 5, 6)
	checkTape(t, x, append(slices.Clone(l), event(1, 2, 3)), "a tape after notes on others")
	checkTape(t, tape.New(), nil, "a new tape after notes on others")
}
