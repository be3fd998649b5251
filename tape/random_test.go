package tape_test

import (
	"math/rand"
	"slices"
	"testing"

	"sharecore/api"
	"sharecore/tape"
)

// recorder is a tape together with the list of the events that it should have.
type recorder struct {
	tape *tape.Tape
	list []api.Event
}

func (r *recorder) note(e api.Event) {
	r.tape.Note(e.Kind, e.A, e.B)
	r.list = append(r.list, e)
}

func (r *recorder) play(t *testing.T, other *recorder) {
	t.Helper()
	checkNumber(t, r.tape.Play(other.tape), len(other.list), "Play")
	r.list = slices.Concat(r.list, other.list)
}

// firstDifference is the specification of First, for lists.
func firstDifference(l, m []api.Event) int {
	if slices.Equal(l, m) {
		return -1
	}
	n := 0
	for n < len(l) && n < len(m) && l[n] == m[n] {
		n++
	}
	return n
}

// P2.1 to P2.4: in long runs of mixed calls, several tapes behave like lists.
func TestMixedCalls(t *testing.T) {
	random := rand.New(rand.NewSource(2))
	recorders := make([]*recorder, 4)
	for i := range recorders {
		recorders[i] = &recorder{tape: tape.New()}
	}
	for range 3000 {
		r, other := recorders[random.Intn(4)], recorders[random.Intn(4)]
		change(t, random, r, other)
		n := random.Intn(len(r.list)+20) - 10
		checkNumber(t, r.tape.Len(), len(r.list), "Len")
		checkEvents(t, r.tape.Since(n), r.list[min(max(n, 0), len(r.list)):], "Since")
		checkFirst(t, r.tape, other.tape, firstDifference(r.list, other.list))
	}
}

// change appends to a tape, or replaces it when it has become long.
func change(t *testing.T, random *rand.Rand, r, other *recorder) {
	t.Helper()
	switch choice := random.Intn(20); {
	case len(r.list) > 2000:
		cut := random.Intn(200)
		*r = recorder{tape: tape.New(r.list[:cut]...), list: slices.Clone(r.list[:cut])}
	case choice == 0:
		r.play(t, other)
	case choice == 1:
		*r = recorder{tape: tape.New(other.list...), list: slices.Clone(other.list)}
	default:
		for range random.Intn(9) {
			r.note(event(random.Intn(3), random.Intn(3), random.Intn(3)))
		}
	}
}
