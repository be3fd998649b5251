package dft_test

import (
	"math"
	"math/rand"
	"slices"
	"testing"

	"sharecore/api"
	"sharecore/dft"
)

// product returns the product of two polynomials by its definition.
func product(a, b []int) []int {
	if len(a) == 0 || len(b) == 0 {
		return nil
	}
	c := make([]int, len(a)+len(b)-1)
	for i, x := range a {
		for k, y := range b {
			c[i+k] += x * y
		}
	}
	return c
}

// coefficients returns n random coefficients with absolute values up to a limit, or
// with just this absolute value.
func coefficients(r *rand.Rand, n, limit int, extreme bool) []int {
	l := make([]int, n)
	for i := range l {
		l[i] = r.Intn(2*limit+1) - limit
		if extreme {
			l[i] = limit * (2*r.Intn(2) - 1)
		}
	}
	return l
}

func checkProduct(t *testing.T, a, b, want []int) {
	t.Helper()
	if got, e := dft.Multiply(a, b); !slices.Equal(got, want) || e != api.OK {
		t.Errorf("Multiply of %v and %v returns %v and %v", a, b, got, e)
	}
}

func checkError(t *testing.T, a, b []int, want api.Errno) {
	t.Helper()
	if got, e := dft.Multiply(a, b); len(got) != 0 || e != want {
		t.Errorf("Multiply of %v and %v returns %v and %v", a, b, got, e)
	}
}

// P11.3: the limits, and the example of the chapter and of the document.
func TestMultiplyExamples(t *testing.T) {
	if dft.MaxLen != 64 || dft.MaxValue != 1000 {
		t.Errorf("the limits are %d and %d", dft.MaxLen, dft.MaxValue)
	}
	checkProduct(t, []int{1, 2}, []int{3, 4}, []int{3, 10, 8})
	checkProduct(t, []int{7}, []int{-6}, []int{-42})
	checkProduct(t, []int{1, -1}, []int{1, 1, 1}, []int{1, 0, 0, -1})
	checkProduct(t, []int{0, 0, 1}, []int{0, 5, 0}, []int{0, 0, 0, 5, 0})
	checkProduct(t, []int{1, 10, 100}, []int{1, -10, 100}, []int{1, 0, 100, 0, 10000})
}

// P11.3: all lengths.
func TestMultiplyAllLengths(t *testing.T) {
	r := rand.New(rand.NewSource(2))
	for n := range dft.MaxLen + 1 {
		for m := range dft.MaxLen + 1 {
			a, b := coefficients(r, n, dft.MaxValue, false), coefficients(r, m, dft.MaxValue, false)
			checkProduct(t, a, b, product(a, b))
		}
	}
}

// P11.3: the greatest absolute values.
func TestMultiplyGreatValues(t *testing.T) {
	r := rand.New(rand.NewSource(3))
	for range 300 {
		for _, n := range []int{1, 2, 17, 31, 32, 33, 63, 64} {
			a, b := coefficients(r, n, dft.MaxValue, true), coefficients(r, 64, dft.MaxValue, true)
			checkProduct(t, a, b, product(a, b))
		}
	}
	for _, x := range []int{-dft.MaxValue, dft.MaxValue} {
		for _, y := range []int{-dft.MaxValue, dft.MaxValue} {
			for n := range dft.MaxLen + 1 {
				a, b := slices.Repeat([]int{x}, n), slices.Repeat([]int{y}, dft.MaxLen)
				checkProduct(t, a, b, product(a, b))
			}
		}
	}
}

// P11.3: one power of the variable times another one.
func TestMultiplyPowers(t *testing.T) {
	for i := range dft.MaxLen {
		for k := range dft.MaxLen {
			a, b, want := make([]int, dft.MaxLen), make([]int, dft.MaxLen), make([]int, 2*dft.MaxLen-1)
			a[i], b[k], want[i+k] = 999, -dft.MaxValue, -999000
			checkProduct(t, a, b, want)
		}
	}
}

// P11.3: values all over the range, each beside others.
func TestMultiplyValues(t *testing.T) {
	for x := -dft.MaxValue; x <= dft.MaxValue; x += 7 {
		for y := -dft.MaxValue; y <= dft.MaxValue; y += 9 {
			checkProduct(t, []int{x, y, 1}, []int{y, x}, []int{x * y, x*x + y*y, x*y + y, x})
		}
	}
}

// P11.3: a product has its length even if coefficients at its end are 0.
func TestMultiplyZeros(t *testing.T) {
	for n := range dft.MaxLen + 1 {
		for m := range dft.MaxLen + 1 {
			a, b := make([]int, n), make([]int, m)
			checkProduct(t, a, b, product(a, b))
		}
	}
}

// P11.3: the product with an empty polynomial is empty.
func TestMultiplyEmpty(t *testing.T) {
	for _, empty := range [][]int{nil, {}, make([]int, 9)[:0]} {
		for n := range dft.MaxLen + 1 {
			l := slices.Repeat([]int{dft.MaxValue}, n)
			checkProduct(t, empty, l, nil)
			checkProduct(t, l, empty, nil)
		}
	}
}

// P11.3: too many elements, also if one is out of range, or if the other polynomial
// is empty.
func TestMultiplyLengths(t *testing.T) {
	for _, n := range []int{65, 66, 127, 128, 129, 192, 256, 257, 1000, 1 << 16} {
		for _, x := range []int{0, 1, dft.MaxValue, dft.MaxValue + 1, -dft.MaxValue - 1, math.MinInt, math.MaxInt} {
			long := make([]int, n)
			long[n-1] = x
			for _, other := range [][]int{nil, {1}, {1001}, make([]int, 64), make([]int, 65), {math.MinInt}} {
				checkError(t, long, other, api.ErrLength)
				checkError(t, other, long, api.ErrLength)
			}
		}
	}
}

// P11.3: an element out of range at each index, also if the other polynomial is
// empty.
func TestMultiplyRange(t *testing.T) {
	for _, x := range []int{-1001, 1001, -1002, 1002, 1 << 20, 1 << 32, -1 << 32, 1<<32 + 5, math.MinInt, math.MinInt + 1, math.MaxInt} {
		for n := 1; n <= dft.MaxLen; n++ {
			l := slices.Repeat([]int{dft.MaxValue}, n)
			l[n/2] = x
			for _, other := range [][]int{nil, {}, {0}, {-1000, 1000}, make([]int, 64), {x}} {
				checkError(t, l, other, api.ErrRange)
				checkError(t, other, l, api.ErrRange)
			}
		}
		for i := range dft.MaxLen {
			l := make([]int, dft.MaxLen)
			l[i] = x
			checkError(t, l, []int{1}, api.ErrRange)
			checkError(t, []int{1}, l, api.ErrRange)
		}
	}
}

// P11.4
func TestMultiplyCommutes(t *testing.T) {
	r := rand.New(rand.NewSource(4))
	for range 500 {
		a := coefficients(r, r.Intn(65), dft.MaxValue, false)
		b := coefficients(r, r.Intn(65), dft.MaxValue, false)
		want, _ := dft.Multiply(a, b)
		checkProduct(t, b, a, want)
	}
}

// P11.4
func TestMultiplyDistributes(t *testing.T) {
	r := rand.New(rand.NewSource(5))
	for range 500 {
		n := r.Intn(65)
		a := coefficients(r, r.Intn(65), dft.MaxValue, false)
		b, c := coefficients(r, n, dft.MaxValue/2, false), coefficients(r, n, dft.MaxValue/2, false)
		sum := make([]int, n)
		for i := range sum {
			sum[i] = b[i] + c[i]
		}
		want, _ := dft.Multiply(a, b)
		other, _ := dft.Multiply(a, c)
		for i := range other {
			want[i] += other[i]
		}
		checkProduct(t, a, sum, want)
		checkProduct(t, sum, a, want)
	}
}

// Nothing beyond the lengths of the arguments counts, and they are not modified.
// They may be the same list, and results share memory with nothing.
func TestMultiplyMemory(t *testing.T) {
	whole := []int{1, 2, 3, 1001, math.MinInt, 6}
	before := slices.Clone(whole)
	for range 2 {
		checkProduct(t, whole[:2], whole[1:3], []int{2, 7, 6})
		checkProduct(t, whole[:3], whole[:3], []int{1, 4, 10, 12, 9})
		checkProduct(t, whole[:1], whole[:1], []int{1})
		result, _ := dft.Multiply(whole[:1], whole[:3])
		clear(result[:cap(result)])
		checkError(t, whole[:4], whole[:1], api.ErrRange)
	}
	if !slices.Equal(whole, before) {
		t.Errorf("the arguments are now %v", whole)
	}
	long := make([]int, 100)
	checkProduct(t, long[:64], long[99:], make([]int, 64))
}
