package audit_test

import (
	"math/rand"
	"slices"
	"testing"

	"sharecore/api"
	"sharecore/audit"
	"sharecore/tape"
)

// coefs returns the events for the elements with the indices from start to n - 1.
func coefs(start, n int) []api.Event {
	var l []api.Event
	for i := start; i < n; i++ {
		l = append(l, api.Event{Kind: api.Coef, A: i})
	}
	return l
}

// pairs returns the events for the pairs of n positions, without those of equal
// positions if they are to be different.
func pairs(n int, different bool) []api.Event {
	var l []api.Event
	for i := range n {
		for k := range n {
			if i != k || !different {
				l = append(l, api.Event{Kind: api.Pair, A: i, B: k})
			}
		}
	}
	return l
}

// batchEvents returns the events of the inverses of n elements, of which there is one
// at least.
func batchEvents(n int) []api.Event {
	l := coefs(0, n)
	for window := 63; window >= 0; window-- {
		l = append(l, api.Event{Kind: api.Step, A: window})
		for k := range 16 {
			l = append(l, api.Event{Kind: api.Scan, A: k})
		}
	}
	back := coefs(0, n)
	slices.Reverse(back)
	return append(l, back...)
}

// consistentEvents returns the events of Consistent and Chunks for n shares.
func consistentEvents(h header, n int) []api.Event {
	fits := slices.Concat(pairs(n, true), batchEvents(n), pairs(n, false), coefs(h.threshold, n))
	var l []api.Event
	for k := range countOf(h.length) {
		l = append(l, api.Event{Kind: api.Chunk, A: k})
		l = append(l, fits...)
	}
	return l
}

// suspectsEvents returns the events of Suspects for n shares, which are more than the
// threshold.
func suspectsEvents(h header, n int) []api.Event {
	others := consistentEvents(h, n-1)
	var l []api.Event
	for i := range n {
		l = append(l, api.Event{Kind: api.Deal, A: i})
		l = append(l, others...)
	}
	return l
}

// result is what one of the functions returns.
type result struct {
	consistent bool
	chunks     []bool
	suspects   []int
	e          api.Errno
}

func (r result) same(s result) bool {
	return r.consistent == s.consistent && slices.Equal(r.chunks, s.chunks) && slices.Equal(r.suspects, s.suspects) && r.e == s.e
}

// The functions with a tape.
func callConsistent(u *tape.Tape, l []api.Share) result {
	consistent, e := audit.Consistent(u, l)
	return result{consistent: consistent, e: e}
}

func callChunks(u *tape.Tape, l []api.Share) result {
	chunks, e := audit.Chunks(u, l)
	return result{chunks: chunks, e: e}
}

func callSuspects(u *tape.Tape, l []api.Share) result {
	suspects, e := audit.Suspects(u, l)
	return result{suspects: suspects, e: e}
}

// checkEvents checks that a call appends events to what a tape already has, and
// that its result is the same without a tape.
func checkEvents(t *testing.T, want []api.Event, wantError api.Errno, name string, call func(*tape.Tape) result) {
	t.Helper()
	first := api.Event{Kind: api.Deal, A: -1, B: 7}
	x := tape.New(first)
	got := call(x)
	if got.e != wantError {
		t.Errorf("%s returns %v instead of %v", name, got.e, wantError)
	}
	if at := tape.First(x, tape.New(slices.Concat([]api.Event{first}, want)...)); at >= 0 {
		t.Errorf("%s: the events differ from the index %d on; there are %d instead of %d new ones", name, at, x.Len()-1, len(want))
	}
	if !got.same(call(nil)) {
		t.Errorf("%s: the results with and without a tape differ", name)
	}
}

// checkAnswersEvents checks the events of Consistent and Chunks for shares with a
// header.
func checkAnswersEvents(t *testing.T, h header, l []api.Share) {
	t.Helper()
	want := consistentEvents(h, len(l))
	checkEvents(t, want, api.OK, "Consistent", func(u *tape.Tape) result { return callConsistent(u, l) })
	checkEvents(t, want, api.OK, "Chunks", func(u *tape.Tape) result { return callChunks(u, l) })
}

// checkAllEvents checks the events of all functions for shares with a header. Suspects
// has none if there are not more of them than the threshold.
func checkAllEvents(t *testing.T, h header, l []api.Share) {
	t.Helper()
	checkAnswersEvents(t, h, l)
	var want []api.Event
	wantError := api.ErrFew
	if len(l) > h.threshold {
		want, wantError = suspectsEvents(h, len(l)), api.OK
	}
	checkEvents(t, want, wantError, "Suspects", func(u *tape.Tape) result { return callSuspects(u, l) })
}

// checkNoEvents checks that all functions return an error and record no events.
func checkNoEvents(t *testing.T, l []api.Share, want api.Errno) {
	t.Helper()
	checkEvents(t, nil, want, "Consistent", func(u *tape.Tape) result { return callConsistent(u, l) })
	checkEvents(t, nil, want, "Chunks", func(u *tape.Tape) result { return callChunks(u, l) })
	checkEvents(t, nil, want, "Suspects", func(u *tape.Tape) result { return callSuspects(u, l) })
}

// The numbers of events for six shares, the threshold 4 and three chunks, counted by
// hand.
func TestNumbersOfEvents(t *testing.T) {
	h := header{1, 4, 70}
	if n := len(consistentEvents(h, 6)); n != 3*(1+30+6+64*17+6+36+2) {
		t.Errorf("Consistent and Chunks have %d events", n)
	}
	if n := len(suspectsEvents(h, 6)); n != 6*(1+3*(1+20+5+64*17+5+25+1)) {
		t.Errorf("Suspects has %d events", n)
	}
}

// P18.4: the events are those of the header and the number of shares, whatever the
// elements, the indices and the answers are.
func TestEvents(t *testing.T) {
	r := rand.New(rand.NewSource(40))
	for _, id := range ids {
		for _, threshold := range []int{1, 2, 3, 5} {
			for _, length := range []int{0, 1, 31, 32, 63} {
				h := header{id, threshold, length}
				for _, further := range []int{0, 1, 2, 4} {
					n := threshold + further
					checkAllEvents(t, h, h.zeros(upTo(n)))
					checkAllEvents(t, h, h.any(r, indices(r, n)))
					l := h.consistent(r, indices(r, n))
					checkAllEvents(t, h, l)
					for k := range countOf(length) {
						change(l[r.Intn(n)], k)
						checkAllEvents(t, h, l)
					}
				}
			}
		}
	}
}

// P18.4: one inconsistent chunk of many, at each index, and one share that is changed,
// at each position.
func TestEventsOfEachChunk(t *testing.T) {
	r := rand.New(rand.NewSource(41))
	for _, id := range ids {
		h := header{id, 2, 125}
		all := h.consistent(r, indices(r, 5))
		for i := range all {
			for k := range countOf(h.length) {
				l := clone(all)
				change(l[i], k)
				checkAllEvents(t, h, l)
			}
		}
	}
}

// P18.4: many shares, and many chunks.
func TestManyEvents(t *testing.T) {
	r := rand.New(rand.NewSource(42))
	for _, h := range []header{{1, 255, 1}, {2, 200, 40}, {2, 10, 0}} {
		checkAnswersEvents(t, h, h.any(r, indices(r, 255)))
	}
	for _, h := range []header{{1, 2, 5000}, {2, 1, 5000}} {
		checkAnswersEvents(t, h, h.any(r, indices(r, 3)))
	}
	h := header{2, 30, 32}
	checkAllEvents(t, h, h.any(r, indices(r, 40)))
	h = header{1, 1, 900}
	checkAllEvents(t, h, h.consistent(r, indices(r, 2)))
}

// The empty secret has no events of chunks, and Suspects those of the shares only.
func TestEventsOfEmptySecret(t *testing.T) {
	for _, id := range ids {
		l := header{id, 2, 0}.zeros([]int{9, 255, 4})
		checkEvents(t, nil, api.OK, "Consistent", func(u *tape.Tape) result { return callConsistent(u, l) })
		checkEvents(t, nil, api.OK, "Chunks", func(u *tape.Tape) result { return callChunks(u, l) })
		want := []api.Event{{Kind: api.Deal}, {Kind: api.Deal, A: 1}, {Kind: api.Deal, A: 2}}
		checkEvents(t, want, api.OK, "Suspects", func(u *tape.Tape) result { return callSuspects(u, l) })
	}
}

// Several calls record one after the other on the same tape, and calls that return
// errors nothing in between.
func TestEventsOfSeveralCalls(t *testing.T) {
	r := rand.New(rand.NewSource(43))
	g, h := header{1, 2, 40}, header{2, 3, 1}
	l, m := g.consistent(r, []int{9, 4, 1}), h.any(r, []int{7, 200, 30, 31})
	want := slices.Concat(suspectsEvents(g, 3), consistentEvents(h, 4), consistentEvents(g, 2), suspectsEvents(h, 4))
	checkEvents(t, want, api.OK, "several calls", func(u *tape.Tape) result {
		audit.Suspects(u, l)
		audit.Suspects(u, l[:2])
		audit.Chunks(u, m)
		audit.Chunks(u, m[:2])
		audit.Consistent(u, l[1:])
		audit.Consistent(u, slices.Concat(l, m))
		return callSuspects(u, m)
	})
}

// There are no events together with an error.
func TestNoEventsOfErrors(t *testing.T) {
	r := rand.New(rand.NewSource(44))
	checkNoEvents(t, nil, api.ErrFew)
	for _, id := range ids {
		l := header{id, 2, 40}.any(r, []int{5, 1, 255})
		checkNoEvents(t, l[:1], api.ErrFew)
		checkNoEvents(t, append(slices.Clone(l), l[0]), api.ErrDuplicate)
		checkNoEvents(t, append(slices.Clone(l), header{id, 2, 41}.any(r, []int{9})...), api.ErrMixed)
		checkEvents(t, nil, api.ErrFew, "Suspects", func(u *tape.Tape) result { return callSuspects(u, l[:2]) })
		for e, wrong := range wrongShares(l[1]) {
			for _, s := range wrong {
				for i := range len(l) + 1 {
					checkNoEvents(t, slices.Insert(slices.Clone(l), i, s), e)
				}
			}
		}
	}
}
