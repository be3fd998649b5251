package join_test

import (
	"bytes"
	"math/rand"
	"slices"
	"testing"

	"sharecore/api"
	"sharecore/join"
	"sharecore/tape"
)

// coefs returns the events for n elements in ascending order.
func coefs(n int) []api.Event {
	var l []api.Event
	for i := range n {
		l = append(l, api.Event{Kind: api.Coef, A: i})
	}
	return l
}

// back returns the events for n elements in descending order.
func back(n int) []api.Event {
	l := coefs(n)
	slices.Reverse(l)
	return l
}

// weightsEvents returns the events of the weights of n points, of which there is one
// at least.
func weightsEvents(n int) []api.Event {
	var l []api.Event
	for i := range n {
		for k := range n {
			if i != k {
				l = append(l, api.Event{Kind: api.Pair, A: i, B: k})
			}
		}
	}
	l = append(l, coefs(n)...)
	for window := 63; window >= 0; window-- {
		l = append(l, api.Event{Kind: api.Step, A: window})
		for k := range 16 {
			l = append(l, api.Event{Kind: api.Scan, A: k})
		}
	}
	return append(l, back(n)...)
}

// forChunks returns the same events for each chunk, behind its own one.
func forChunks(count int, events []api.Event) []api.Event {
	var l []api.Event
	for k := range count {
		l = append(l, api.Event{Kind: api.Chunk, A: k})
		l = append(l, events...)
	}
	return l
}

// valuesEvents returns the events of Values and Combine.
func valuesEvents(h header) []api.Event {
	n := h.threshold
	return slices.Concat(weightsEvents(n), coefs(n), forChunks(countOf(h.length), coefs(n)))
}

// atEvents returns the events of At.
func atEvents(h header) []api.Event {
	n := h.threshold
	var pairs []api.Event
	for i := range n {
		for k := range n {
			pairs = append(pairs, api.Event{Kind: api.Pair, A: i, B: k})
		}
	}
	return forChunks(countOf(h.length), slices.Concat(weightsEvents(n), pairs, back(n)))
}

// result is what one of the functions returns.
type result struct {
	elements []api.Element
	secret   []byte
	share    api.Share
	e        api.Errno
}

func (r result) same(s result) bool {
	return slices.Equal(r.elements, s.elements) && bytes.Equal(r.secret, s.secret) && sameShare(r.share, s.share) && r.e == s.e
}

// The functions with a tape.
func callValues(u *tape.Tape, l []api.Share) result {
	elements, e := join.Values(u, l)
	return result{elements: elements, e: e}
}

func callCombine(u *tape.Tape, l []api.Share) result {
	secret, e := join.Combine(u, l)
	return result{secret: secret, e: e}
}

func callAt(u *tape.Tape, l []api.Share, index int) result {
	s, e := join.At(u, l, index)
	return result{share: s, e: e}
}

// checkEvents checks that a call appends events to what a tape already has, and
// that its result is the same without a tape.
func checkEvents(t *testing.T, want []api.Event, wantError api.Errno, name string, call func(*tape.Tape) result) {
	t.Helper()
	first := api.Event{Kind: api.Deal, A: -1, B: 7}
	x := tape.New(first)
	got := call(x)
	if got.e != wantError {
		t.Errorf("%s returns %v instead of %v", name, got.e, wantError)
	}
	if at := tape.First(x, tape.New(slices.Concat([]api.Event{first}, want)...)); at >= 0 {
		t.Errorf("%s: the events differ from the index %d on; there are %d instead of %d new ones", name, at, x.Len()-1, len(want))
	}
	if !got.same(call(nil)) {
		t.Errorf("%s: the results with and without a tape differ", name)
	}
}

// checkAllEvents checks the events of all functions for shares with a header, of
// which Combine returns an error or not.
func checkAllEvents(t *testing.T, h header, l []api.Share, index int, wantError api.Errno) {
	t.Helper()
	checkEvents(t, valuesEvents(h), api.OK, "Values", func(u *tape.Tape) result { return callValues(u, l) })
	checkEvents(t, valuesEvents(h), wantError, "Combine", func(u *tape.Tape) result { return callCombine(u, l) })
	checkEvents(t, atEvents(h), api.OK, "At", func(u *tape.Tape) result { return callAt(u, l, index) })
}

// checkNoEvents checks that all functions return an error and record no events.
func checkNoEvents(t *testing.T, l []api.Share, want api.Errno) {
	t.Helper()
	checkEvents(t, nil, want, "Values", func(u *tape.Tape) result { return callValues(u, l) })
	checkEvents(t, nil, want, "Combine", func(u *tape.Tape) result { return callCombine(u, l) })
	checkEvents(t, nil, want, "At", func(u *tape.Tape) result { return callAt(u, l, 3) })
	checkEvents(t, nil, want, "At", func(u *tape.Tape) result { return callAt(u, l, 0) })
}

// The numbers of events for the threshold 4 and three chunks, counted by hand.
func TestNumbersOfEvents(t *testing.T) {
	h := header{1, 4, 70}
	if n := len(valuesEvents(h)); n != 12+4+64*17+4+4+3*5 {
		t.Errorf("Values and Combine have %d events", n)
	}
	if n := len(atEvents(h)); n != 3*(1+12+4+64*17+4+16+4) {
		t.Errorf("At has %d events", n)
	}
}

// P17.4: the events are those of the header, whatever the elements, the indices and
// the further shares are.
func TestEvents(t *testing.T) {
	r := rand.New(rand.NewSource(40))
	for _, id := range ids {
		for _, threshold := range []int{1, 2, 3, 5, 20} {
			for _, length := range []int{0, 1, 31, 32, 62, 63, 100} {
				h := header{id, threshold, length}
				for _, further := range []int{0, 1, 7} {
					n := threshold + further
					zeros := h.of(r, indices(r, n), make([]api.Element, countOf(length)))
					checkAllEvents(t, h, zeros, 1+r.Intn(255), api.OK)
					checkAllEvents(t, h, zeros, zeros[n-1].Index, api.OK)
					l := h.of(r, upTo(n), chunksOf(id, noise(length, r.Int63())))
					checkAllEvents(t, h, l, 1, api.OK)
				}
			}
		}
	}
}

// The events together with a wrong padding of each chunk: Combine records all of
// them.
func TestEventsOfPaddings(t *testing.T) {
	r := rand.New(rand.NewSource(41))
	for _, id := range ids {
		for _, threshold := range []int{1, 2, 4} {
			for _, length := range []int{1, 31, 32, 100} {
				h := header{id, threshold, length}
				for k := range countOf(length) {
					constants := make([]api.Element, countOf(length))
					constants[k] = list(id, -1)[0]
					l := h.of(r, indices(r, threshold+2), constants)
					checkAllEvents(t, h, l, 255, api.ErrPadding)
				}
			}
		}
	}
}

// P17.4: many points, and many chunks.
func TestManyEvents(t *testing.T) {
	r := rand.New(rand.NewSource(42))
	for _, h := range []header{{1, 255, 40}, {2, 255, 0}, {2, 100, 62}, {1, 1, 65535}, {2, 2, 5000}} {
		l := h.of(r, indices(r, min(h.threshold+1, 255)), chunksOf(h.field, noise(h.length, 43)))
		checkAllEvents(t, h, l, 9, api.OK)
	}
}

// The empty secret has the events of the coefficients, and At has none.
func TestEventsOfEmptySecret(t *testing.T) {
	for _, id := range ids {
		h := header{id, 2, 0}
		l := []api.Share{h.share(1, nil), h.share(2, nil)}
		x := tape.New()
		join.Values(x, l)
		if x.Len() != 2+2+64*17+2+2 || x.Count(api.Chunk) != 0 {
			t.Errorf("Values has %d events", x.Len())
		}
		x = tape.New()
		join.At(x, l, 3)
		if x.Len() != 0 {
			t.Errorf("At has %d events", x.Len())
		}
	}
}

// Several calls record one after the other on the same tape, and calls that return
// errors of lists and indices nothing in between.
func TestEventsOfSeveralCalls(t *testing.T) {
	r := rand.New(rand.NewSource(44))
	g, h := header{1, 2, 40}, header{2, 3, 1}
	l := g.of(r, []int{9, 4, 1}, chunksOf(1, noise(40, 45)))
	m := h.of(r, []int{7, 200, 30}, chunksOf(2, noise(1, 46)))
	want := slices.Concat(atEvents(g), valuesEvents(h), valuesEvents(g), atEvents(h))
	checkEvents(t, want, api.OK, "several calls", func(u *tape.Tape) result {
		join.At(u, l, 5)
		join.At(u, l, 256)
		join.Values(u, m)
		join.Values(u, m[:2])
		join.Combine(u, l)
		join.Combine(u, slices.Concat(l, m))
		return callAt(u, m, 5)
	})
}

// There are no events together with an error of the list or of the index.
func TestNoEventsOfErrors(t *testing.T) {
	r := rand.New(rand.NewSource(47))
	checkNoEvents(t, nil, api.ErrFew)
	for _, id := range ids {
		l := header{id, 2, 40}.any(r, []int{5, 1, 255})
		checkNoEvents(t, l[:1], api.ErrFew)
		checkNoEvents(t, append(slices.Clone(l), l[0]), api.ErrDuplicate)
		checkNoEvents(t, append(slices.Clone(l), header{id, 2, 41}.any(r, []int{9})...), api.ErrMixed)
		for e, wrong := range wrongShares(l[1]) {
			for _, s := range wrong {
				for i := range len(l) + 1 {
					checkNoEvents(t, slices.Insert(slices.Clone(l), i, s), e)
				}
			}
		}
		for _, index := range wrongIndices() {
			checkEvents(t, nil, api.ErrIndex, "At", func(u *tape.Tape) result { return callAt(u, l, index) })
		}
	}
}
