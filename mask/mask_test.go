package mask_test

import (
	"math/rand"
	"slices"
	"testing"

	"sharecore/mask"
)

const ones = 1<<64 - 1

// words returns words at the borders of the ranges of numbers with and without
// sign, all powers of two, and some others.
func words() []uint64 {
	l := []uint64{0, 3, 0xff, 0x1234, 0x5678, 1<<32 - 1, 1<<32 + 1, 1<<63 - 1, 1<<63 + 1, ones - 1, ones}
	for i := range 64 {
		l = append(l, 1<<i)
	}
	random := rand.New(rand.NewSource(1))
	for range 30 {
		l = append(l, random.Uint64())
	}
	return l
}

func maskOf(condition bool) uint64 {
	if condition {
		return ones
	}
	return 0
}

func check(t *testing.T, got, want uint64, call string, operands ...uint64) {
	t.Helper()
	if got != want {
		t.Errorf("%s of %x is %x instead of %x", call, operands, got, want)
	}
}

// P1.1: only the lowest bit counts.
func TestFromBit(t *testing.T) {
	for _, w := range words() {
		check(t, mask.FromBit(w), maskOf(w%2 == 1), "FromBit", w)
	}
}

// P1.1
func TestIsZero(t *testing.T) {
	check(t, mask.IsZero(), ones, "IsZero")
	check(t, mask.IsZero([]uint64{}...), ones, "IsZero")
	for _, w := range words() {
		check(t, mask.IsZero(w), maskOf(w == 0), "IsZero", w)
	}
}

// P1.1: one word that is not 0 counts at every position, and words do not cancel out.
func TestIsZeroOfSeveral(t *testing.T) {
	for n := range 6 {
		check(t, mask.IsZero(make([]uint64, n)...), ones, "IsZero", make([]uint64, n)...)
		for i := range n {
			for _, w := range words() {
				l := make([]uint64, n)
				l[i] = w
				check(t, mask.IsZero(l...), maskOf(w == 0), "IsZero", l...)
			}
		}
	}
	for _, w := range words()[1:] {
		check(t, mask.IsZero(w, -w), 0, "IsZero", w, -w)
		check(t, mask.IsZero(w, w), 0, "IsZero", w, w)
	}
}

// P1.1: the words of a slice are neither changed nor read beyond its length.
func TestIsZeroOfSlice(t *testing.T) {
	l := []uint64{0, 0, 5}
	check(t, mask.IsZero(l[:2]...), ones, "IsZero", l[:2]...)
	check(t, mask.IsZero(l...), 0, "IsZero", l...)
	if !slices.Equal(l, []uint64{0, 0, 5}) {
		t.Errorf("IsZero has changed its argument to %x", l)
	}
}

// P1.2
func TestEqualAndLess(t *testing.T) {
	check(t, mask.Less(1, 2), ones, "Less", 1, 2)
	for _, a := range words() {
		for _, b := range words() {
			check(t, mask.Equal(a, b), maskOf(a == b), "Equal", a, b)
			check(t, mask.Less(a, b), maskOf(a < b), "Less", a, b)
		}
	}
}

// P1.3: each bit is chosen by itself, also for words that are no masks.
func TestChoose(t *testing.T) {
	check(t, mask.Choose(0xff, 0x1234, 0x5678), 0x5634, "Choose", 0xff, 0x1234, 0x5678)
	for _, m := range words() {
		for _, a := range words() {
			for _, b := range words()[:20] {
				check(t, mask.Choose(m, a, b), chosenBits(m, a, b), "Choose", m, a, b)
			}
		}
	}
}

func chosenBits(m, a, b uint64) uint64 {
	var w uint64
	for i := range 64 {
		bit := b >> i & 1
		if m>>i&1 == 1 {
			bit = a >> i & 1
		}
		w |= bit << i
	}
	return w
}

// P1.4
func TestTable(t *testing.T) {
	check(t, mask.Table([]uint64{7, 8, 9}, 1), 8, "Table", 7, 8, 9)
	for _, n := range []int{1, 2, 3, 16, 255, 256, 300} {
		l := table(n)
		before := slices.Clone(l)
		for i, w := range l {
			check(t, mask.Table(l, uint64(i)), w, "Table", uint64(n), uint64(i))
		}
		if !slices.Equal(l, before) {
			t.Errorf("Table has changed its argument of length %d", n)
		}
	}
	for _, w := range words() {
		check(t, mask.Table([]uint64{w, 1, w}, 0), w, "Table", w, 1, w)
		check(t, mask.Table([]uint64{ones, w, ones}, 1), w, "Table", ones, w, ones)
	}
}

// P1.4: there is no element for an index from the length on, even if its lower
// bits are those of the index of an element.
func TestTableWithoutElement(t *testing.T) {
	for _, n := range []int{0, 1, 2, 3, 16, 256, 300} {
		l := table(n + 2)[:n]
		for _, i := range words() {
			if i >= uint64(n) {
				check(t, mask.Table(l, i), 0, "Table", uint64(n), i)
				check(t, mask.Table(l, i|1<<63), 0, "Table", uint64(n), i|1<<63)
			}
		}
		check(t, mask.Table(l, uint64(n)), 0, "Table", uint64(n), uint64(n))
		check(t, mask.Table(l, -uint64(n+1)), 0, "Table", uint64(n), -uint64(n+1))
	}
	check(t, mask.Table(nil, 0), 0, "Table")
	check(t, mask.Table(nil, ones), 0, "Table")
}

// table returns n different words.
func table(n int) []uint64 {
	l := make([]uint64, n)
	for i := range l {
		l[i] = uint64(i+1) * 0x9e3779b97f4a7c15
	}
	return l
}

// P1.5
func TestChooseByMask(t *testing.T) {
	for _, a := range words() {
		for _, b := range words() {
			check(t, mask.Choose(mask.FromBit(1), a, b), a, "Choose", a, b)
			check(t, mask.Choose(mask.FromBit(0), a, b), b, "Choose", a, b)
			check(t, mask.Choose(mask.Less(a, b), a, b), min(a, b), "Choose", a, b)
			check(t, mask.Choose(mask.Less(a, b), b, a), max(a, b), "Choose", b, a)
			check(t, mask.Choose(mask.Equal(a, b), a, b), b, "Choose", a, b)
		}
	}
}

// P1.5: any two words are in exactly one of the three orders.
func TestOrder(t *testing.T) {
	for _, a := range words() {
		for _, b := range words() {
			three := []uint64{mask.Less(a, b), mask.Less(b, a), mask.Equal(a, b)}
			slices.Sort(three)
			if !slices.Equal(three, []uint64{0, 0, ones}) {
				t.Errorf("the masks for %x and %x are %x", a, b, three)
			}
		}
	}
}
