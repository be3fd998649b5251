package deal_test

import (
	"bytes"
	"math/rand"
	"slices"
	"testing"

	"sharecore/api"
	"sharecore/deal"
	"sharecore/tape"
)

// eventsOf returns the events of a sharing.
func eventsOf(p api.Params) []api.Event {
	var l []api.Event
	for index := 1; index <= p.Shares; index++ {
		l = append(l, api.Event{Kind: api.Deal, A: index})
		for k := range countOf(p.Length) {
			l = append(l, api.Event{Kind: api.Chunk, A: k})
			for i := p.Threshold - 1; i >= 0; i-- {
				l = append(l, api.Event{Kind: api.Coef, A: i})
			}
		}
	}
	return l
}

// checkEvents checks that a call appends events to what a tape already has, and
// that its result is the same without a tape.
func checkEvents(t *testing.T, want []api.Event, wantError api.Errno, name string, call func(*tape.Tape) ([]api.Share, api.Errno)) {
	t.Helper()
	first := api.Event{Kind: api.Coef, A: -1, B: 7}
	x := tape.New(first)
	l, e := call(x)
	if e != wantError {
		t.Errorf("%s returns %v instead of %v", name, e, wantError)
	}
	if at := tape.First(x, tape.New(slices.Concat([]api.Event{first}, want)...)); at >= 0 {
		t.Errorf("%s: the events differ from the index %d on; there are %d instead of %d new ones", name, at, x.Len()-1, len(want))
	}
	if without, e := call(nil); !sameShares(l, without) || e != wantError {
		t.Errorf("%s: the results with and without a tape differ", name)
	}
}

// checkEventsOf checks the events of Deal and of Evaluate for the same polynomials.
func checkEventsOf(t *testing.T, p api.Params, secret, random []byte) {
	t.Helper()
	want := eventsOf(p)
	checkEvents(t, want, api.OK, "Deal", func(u *tape.Tape) ([]api.Share, api.Errno) {
		return deal.Deal(u, p, secret, random)
	})
	checkEvents(t, want, api.OK, "Evaluate", func(u *tape.Tape) ([]api.Share, api.Errno) {
		return deal.Evaluate(u, p, elementLists(p.Field, coefficients(p, secret, random)))
	})
}

// The events of a sharing with one share, as the document has them for layer 21,
// and those of two shares with two chunks.
func TestWrittenEvents(t *testing.T) {
	for _, id := range []int{1, 2} {
		one := []api.Event{{Kind: api.Deal, A: 1}, {Kind: api.Chunk}, {Kind: api.Coef}}
		p := api.Params{Field: id, Threshold: 1, Shares: 1, Length: 1}
		checkEvents(t, one, api.OK, "Deal", func(u *tape.Tape) ([]api.Share, api.Errno) {
			return deal.Deal(u, p, []byte{9}, nil)
		})
		chunk := func(k int) []api.Event {
			return []api.Event{{Kind: api.Chunk, A: k}, {Kind: api.Coef, A: 1}, {Kind: api.Coef, A: 0}}
		}
		share := func(index int) []api.Event {
			return slices.Concat([]api.Event{{Kind: api.Deal, A: index}}, chunk(0), chunk(1))
		}
		p = api.Params{Field: id, Threshold: 2, Shares: 2, Length: 40}
		checkEvents(t, slices.Concat(share(1), share(2)), api.OK, "Deal", func(u *tape.Tape) ([]api.Share, api.Errno) {
			return deal.Deal(u, p, make([]byte, 40), make([]byte, 128))
		})
	}
}

// P16.4: the events are those of the parameters, whatever the secret and the random
// bytes are.
func TestEvents(t *testing.T) {
	r := rand.New(rand.NewSource(40))
	for _, id := range []int{1, 2} {
		for _, length := range []int{0, 1, 31, 32, 62, 63, 200} {
			for _, counts := range [][2]int{{1, 1}, {1, 3}, {2, 2}, {2, 5}, {3, 4}, {10, 12}} {
				p := api.Params{Field: id, Threshold: counts[0], Shares: counts[1], Length: length}
				needed := neededBy(p)
				checkEventsOf(t, p, make([]byte, length), make([]byte, needed))
				checkEventsOf(t, p, bytes.Repeat([]byte{255}, length), bytes.Repeat([]byte{255}, needed+5))
				checkEventsOf(t, p, noise(length, r.Int63()), noise(needed, r.Int63()))
			}
		}
	}
}

// P16.4: the greatest numbers of shares, coefficients and chunks.
func TestManyEvents(t *testing.T) {
	for _, p := range []api.Params{
		{Field: 1, Threshold: 255, Shares: 255, Length: 1}, {Field: 2, Threshold: 2, Shares: 255, Length: 40},
		{Field: 1, Threshold: 1, Shares: 2, Length: 65535}, {Field: 2, Threshold: 255, Shares: 255},
	} {
		checkEventsOf(t, p, noise(p.Length, 41), noise(neededBy(p), 42))
	}
}

// Several calls record one after the other on the same tape.
func TestEventsOfSeveralCalls(t *testing.T) {
	p := api.Params{Field: 1, Threshold: 2, Shares: 3, Length: 40}
	q := api.Params{Field: 2, Threshold: 3, Shares: 4, Length: 1}
	want := slices.Concat(eventsOf(p), eventsOf(q), eventsOf(p))
	checkEvents(t, want, api.OK, "several calls", func(u *tape.Tape) ([]api.Share, api.Errno) {
		a, _ := deal.Deal(u, p, noise(40, 43), noise(128, 44))
		b, _ := deal.Evaluate(u, q, [][]api.Element{list(2, 1, 2, 3)})
		c, e := deal.Deal(u, p, noise(40, 45), noise(128, 46))
		return slices.Concat(a, b, c), e
	})
}

// There are no events together with an error, wherever it is.
func TestNoEventsOfErrors(t *testing.T) {
	none := func(want api.Errno, name string, call func(u *tape.Tape) ([]api.Share, api.Errno)) {
		t.Helper()
		checkEvents(t, nil, want, name, call)
	}
	right := [][]api.Element{list(1, 5, 3), list(1, 6, 4)}
	for p, want := range wrongParams() {
		none(want, "Deal", func(u *tape.Tape) ([]api.Share, api.Errno) {
			return deal.Deal(u, p, make([]byte, 40), make([]byte, 128))
		})
		none(want, "Evaluate", func(u *tape.Tape) ([]api.Share, api.Errno) { return deal.Evaluate(u, p, right) })
	}
	p := api.Params{Field: 1, Threshold: 2, Shares: 3, Length: 40}
	none(api.ErrLength, "Deal", func(u *tape.Tape) ([]api.Share, api.Errno) {
		return deal.Deal(u, p, make([]byte, 39), make([]byte, 128))
	})
	none(api.ErrRandom, "Deal", func(u *tape.Tape) ([]api.Share, api.Errno) {
		return deal.Deal(u, p, make([]byte, 40), make([]byte, 127))
	})
	for _, polys := range [][][]api.Element{nil, right[:1], append(right, right[0]), {right[0], nil}, {right[0][:1], right[1]}, {right[0], list(1, 1, 2, 3)}} {
		none(api.ErrLength, "Evaluate", func(u *tape.Tape) ([]api.Share, api.Errno) { return deal.Evaluate(u, p, polys) })
	}
}
