package dft_test

import (
	"math"
	"math/cmplx"
	"math/rand"
	"slices"
	"testing"

	"sharecore/dft"
)

const (
	accuracy = 1.0 / (1 << 30)
	// greatest is the absolute value of parts up to which the accuracy is specified.
	greatest = 1 << 10
	maxSize  = 256
	// rounding is the distance of neighboring floats below 1.
	rounding = 1.0 / (1 << 53)
)

// sizes returns the lengths of lists that have transforms.
func sizes() []int { return []int{1, 2, 4, 8, 16, 32, 64, 128, maxSize} }

// near reports whether two numbers differ by at most the accuracy.
func near(a, b complex128) bool { return exactOf(a).near(b, accuracy) }

func isNear(a []complex128, b ...complex128) bool { return slices.EqualFunc(a, b, near) }

// random returns a number whose parts have an absolute value up to the greatest.
func random(r *rand.Rand) complex128 {
	part := func() float64 { return greatest * (2*r.Float64() - 1) }
	return complex(part(), part())
}

// corner returns a number whose parts have the greatest absolute value.
func corner(r *rand.Rand) complex128 {
	part := func() float64 { return greatest * float64(2*r.Intn(2)-1) }
	return complex(part(), part())
}

// fill returns n numbers.
func fill(n int, number func(i int) complex128) []complex128 {
	l := make([]complex128, n)
	for i := range l {
		l[i] = number(i)
	}
	return l
}

// unit returns a list of zeros but for one element.
func unit(n, i int, x complex128) []complex128 {
	l := make([]complex128, n)
	l[i] = x
	return l
}

// aligned returns n numbers with parts up to the greatest that have a great sum when
// each is multiplied by a power of a number.
func aligned(n int, factor complex128) []complex128 {
	return fill(n, func(i int) complex128 {
		w := cmplx.Conj(cmplx.Pow(factor, complex(float64(i), 0)))
		return complex(math.Copysign(greatest, real(w)), math.Copysign(greatest, imag(w)))
	})
}

// lists returns the lists of n numbers whose transforms and inverses the tests
// compute.
func lists(n int) [][]complex128 {
	r := rand.New(rand.NewSource(int64(n)))
	l := [][]complex128{
		make([]complex128, n),
		fill(n, func(int) complex128 { return greatest }),
		fill(n, func(int) complex128 { return complex(-greatest, greatest) }),
		fill(n, func(i int) complex128 { return complex(float64(i), -float64(i)) }),
		fill(n, func(int) complex128 { return random(r) * 1e-9 }),
		unit(n, n-1, 1i),
		unit(n, n/2, complex(-greatest, greatest)),
	}
	for range 3 {
		l = append(l, fill(n, func(int) complex128 { return random(r) }))
		l = append(l, fill(n, func(int) complex128 { return corner(r) }))
		l = append(l, aligned(n, cmplx.Rect(1, 2*math.Pi*float64(r.Intn(n))/float64(n))))
	}
	return l
}

func checkNear(t *testing.T, call string, got []complex128, want []exact) {
	t.Helper()
	checkWithin(t, call, got, want, accuracy)
}

func checkWithin(t *testing.T, call string, got []complex128, want []exact, bound float64) {
	t.Helper()
	if len(got) != len(want) {
		t.Fatalf("%s returns %d numbers instead of %d", call, len(got), len(want))
	}
	for i, x := range want {
		if !x.near(got[i], bound) {
			t.Errorf("%s of %d numbers returns %v at %d instead of %v + %vi", call, len(got), got[i], i, x.re, x.im)
		}
	}
}

// The examples of the chapter, and such short lists.
func TestExamples(t *testing.T) {
	if got := dft.Roots(4); !isNear(got, 1, 1i, -1, -1i) {
		t.Errorf("Roots of 4 returns %v", got)
	}
	if got := dft.Transform([]complex128{1, 2, 3, 4}); !isNear(got, 10, -2-2i, -2, -2+2i) {
		t.Errorf("Transform of 1 to 4 returns %v", got)
	}
	if got := dft.Inverse([]complex128{10, -2 - 2i, -2, -2 + 2i}); !isNear(got, 1, 2, 3, 4) {
		t.Errorf("Inverse returns %v", got)
	}
	if got := dft.Transform([]complex128{3 - 2i}); !isNear(got, 3-2i) {
		t.Errorf("Transform of one number returns %v", got)
	}
	if got := dft.Inverse([]complex128{3 - 2i}); !isNear(got, 3-2i) {
		t.Errorf("Inverse of one number returns %v", got)
	}
	if got := dft.Transform([]complex128{5, 3i}); !isNear(got, 5+3i, 5-3i) {
		t.Errorf("Transform of two numbers returns %v", got)
	}
	if got := dft.Inverse([]complex128{5, 3i}); !isNear(got, 2.5+1.5i, 2.5-1.5i) {
		t.Errorf("Inverse of two numbers returns %v", got)
	}
}

// The exact numbers of the tests, on which the others rely.
func TestExactNumbers(t *testing.T) {
	half := math.Sqrt2 / 2
	want := []complex128{1, complex(half, half), 1i, complex(-half, half), -1, complex(-half, -half), -1i, complex(half, -half)}
	checkNear(t, "the list of roots", want, exactRoots(8))
	for _, n := range sizes() {
		roots := exactRoots(n)
		checkNear(t, "a whole turn", []complex128{1}, []exact{roots[n-1].times(roots[1%n])})
	}
	checkNear(t, "a transform", []complex128{10, -2 - 2i, -2, -2 + 2i}, exactTransform([]complex128{1, 2, 3, 4}))
	checkNear(t, "an inverse", []complex128{1, 2, 3, 4}, exactInverse([]complex128{10, -2 - 2i, -2, -2 + 2i}))
	if !near(7, 7+accuracy) || near(7, 7+2*accuracy) || !near(7, 7-accuracy*1i) || near(7, 7-2*accuracy*1i) {
		t.Error("numbers are compared wrongly")
	}
}

// P11.1
func TestRoots(t *testing.T) {
	for _, n := range sizes() {
		checkNear(t, "Roots", dft.Roots(n), exactRoots(n))
	}
}

// The transforms of long lists of great numbers are that accurate only if the roots
// are as accurate as they can be, but for the last digit.
func TestRootsAreRounded(t *testing.T) {
	for _, n := range sizes() {
		checkWithin(t, "Roots", dft.Roots(n), exactRoots(n), rounding)
		quarters := []complex128{1, 1i, -1, -1i}
		for k, w := range dft.Roots(n) {
			if 4*k%n == 0 && w != quarters[4*k/n] {
				t.Errorf("Roots of %d returns %v at %d", n, w, k)
			}
		}
	}
}

// P11.1: numbers of roots that are no powers of two, too great or too small.
func TestNoRoots(t *testing.T) {
	l := []int{math.MinInt, math.MinInt + 1, -1 << 32, -512, -257, -256, -255, math.MaxInt - 1, math.MaxInt, 1<<32 + 1}
	for i := range 62 {
		l = append(l, -1<<i, 1<<i)
	}
	for n := -300; n <= 1100; n++ {
		l = append(l, n)
	}
	for _, n := range l {
		want := 0
		if slices.Contains(sizes(), n) {
			want = n
		}
		if got := dft.Roots(n); len(got) != want {
			t.Errorf("Roots of %d returns %d numbers", n, len(got))
		}
	}
}

// P11.2
func TestTransform(t *testing.T) {
	for _, n := range sizes() {
		for _, l := range lists(n) {
			checkNear(t, "Transform", dft.Transform(l), exactTransform(l))
		}
	}
}

// P11.2
func TestInverse(t *testing.T) {
	for _, n := range sizes() {
		for _, l := range lists(n) {
			checkNear(t, "Inverse", dft.Inverse(l), exactInverse(l))
		}
	}
}

// P11.2: the transform of a list that is 0 but at one index, for each index.
func TestOneNumber(t *testing.T) {
	const x = 3 - 2i
	for _, n := range sizes() {
		roots := exactRoots(n)
		for j := range n {
			forward, backward := make([]exact, n), make([]exact, n)
			for k := range n {
				forward[k] = exactOf(x).times(roots[j*k%n])
				backward[(n-k)%n] = forward[k].over(n)
			}
			checkNear(t, "Transform", dft.Transform(unit(n, j, x)), forward)
			checkNear(t, "Inverse", dft.Inverse(unit(n, j, x)), backward)
		}
	}
}

// P11.2: lists of other lengths, also with room for more elements.
func TestOtherLengths(t *testing.T) {
	whole := fill(1100, func(i int) complex128 { return complex(float64(i), 1) })
	for n := range len(whole) {
		want := 0
		if slices.Contains(sizes(), n) {
			want = n
		}
		for _, l := range [][]complex128{whole[:n], whole[:n:n]} {
			if got := dft.Transform(l); len(got) != want {
				t.Errorf("Transform of %d numbers returns %d", n, len(got))
			}
			if got := dft.Inverse(l); len(got) != want {
				t.Errorf("Inverse of %d numbers returns %d", n, len(got))
			}
		}
	}
	if got := dft.Transform(nil); len(got) != 0 {
		t.Errorf("Transform of nothing returns %v", got)
	}
	if got := dft.Inverse(nil); len(got) != 0 {
		t.Errorf("Inverse of nothing returns %v", got)
	}
}

// P11.4
func TestInverseOfTransform(t *testing.T) {
	for _, n := range sizes() {
		for _, l := range lists(n) {
			if got := dft.Inverse(dft.Transform(l)); !isNear(got, l...) {
				t.Errorf("the inverse of the transform of %v is %v", l, got)
			}
			if got := dft.Transform(dft.Inverse(l)); !isNear(got, l...) {
				t.Errorf("the transform of the inverse of %v is %v", l, got)
			}
		}
	}
}

// P1: numbers for which no accuracy is specified.
func TestUnusualNumbers(t *testing.T) {
	inf, nan := math.Inf(1), math.NaN()
	l := []complex128{complex(inf, 0), complex(-inf, inf), cmplx.NaN(), complex(1, nan), complex(nan, -inf), complex(math.MaxFloat64, -math.MaxFloat64), complex(math.SmallestNonzeroFloat64, 0), complex(math.Copysign(0, -1), 0)}
	for _, n := range sizes() {
		for i := range l {
			numbers := fill(n, func(j int) complex128 { return l[(i+j)%len(l)] })
			if got := len(dft.Transform(numbers)); got != n {
				t.Errorf("Transform of %v returns %d numbers", numbers, got)
			}
			if got := len(dft.Inverse(numbers)); got != n {
				t.Errorf("Inverse of %v returns %d numbers", numbers, got)
			}
		}
	}
}

// Nothing beyond the length of the argument counts, and it is not modified. Results
// share memory with nothing.
func TestMemory(t *testing.T) {
	calls := map[string]func(l []complex128) []complex128{
		"Roots":     func(l []complex128) []complex128 { return dft.Roots(len(l)) },
		"Transform": dft.Transform,
		"Inverse":   dft.Inverse,
	}
	r := rand.New(rand.NewSource(1))
	for name, call := range calls {
		for _, n := range sizes() {
			whole := fill(2*n, func(int) complex128 { return random(r) })
			before := slices.Clone(whole)
			want := call(slices.Clone(whole[:n]))
			first := call(whole[:n])
			if !slices.Equal(first, want) {
				t.Errorf("%s of %d numbers uses others too", name, n)
			}
			_ = append(first, make([]complex128, 2*n)...)
			clear(first[:cap(first)])
			if !slices.Equal(call(whole[:n]), want) {
				t.Errorf("%s of %d numbers returns memory that it retains", name, n)
			}
			if !slices.Equal(whole, before) {
				t.Errorf("%s of %d numbers modifies them", name, n)
			}
		}
	}
}
