package degree_test

import (
	"encoding/binary"
	"math"
	"math/big"
	"math/rand"
	"slices"
	"testing"

	"sharecore/api"
	"sharecore/degree"
	"sharecore/field"
	"sharecore/mont"
	"sharecore/tape"
)

const ones = 1<<64 - 1

// arithmetic is a field with its modulus, by which the tests compute in it, and
// with some of its elements.
type arithmetic struct {
	field.Field
	p       *big.Int
	borders []api.Element
}

// fields returns both fields; their moduli are those that the document writes.
func fields(t *testing.T) []arithmetic {
	t.Helper()
	return []arithmetic{
		arithmeticOf(t, api.Field25519, "7fffffffffffffffffffffffffffffffffffffffffffffffffffffffffffffed"),
		arithmeticOf(t, api.FieldP256, "ffffffff00000000ffffffffffffffffbce6faada7179e84f3b9cac2fc632551"),
	}
}

func arithmeticOf(t *testing.T, id int, modulus string) arithmetic {
	t.Helper()
	f, e := field.Get(id)
	if e != api.OK {
		t.Fatalf("Get of %d returns %v", id, e)
	}
	p, _ := new(big.Int).SetString(modulus, 16)
	a := arithmetic{Field: f, p: p}
	a.borders = a.findBorders()
	return a
}

// element returns the element with a value modulo p.
func (f arithmetic) element(x *big.Int) api.Element {
	return mont.To(f.Field, vecOf(new(big.Int).Mod(x, f.p)))
}

// list returns the elements with small values.
func (f arithmetic) list(l ...int64) []api.Element {
	var elements []api.Element
	for _, x := range l {
		elements = append(elements, f.element(big.NewInt(x)))
	}
	return elements
}

// value returns the value of an element.
func (f arithmetic) value(a api.Element) *big.Int {
	var b []byte
	number := mont.From(f.Field, a)
	for _, word := range slices.Backward(number[:]) {
		b = binary.BigEndian.AppendUint64(b, word)
	}
	return new(big.Int).SetBytes(b)
}

// vecOf returns a number that is less than 2^256.
func vecOf(x *big.Int) api.Vec {
	b := x.FillBytes(make([]byte, 32))
	var v api.Vec
	for i := range v {
		v[i] = binary.BigEndian.Uint64(b[8*(len(v)-1-i):])
	}
	return v
}

// findBorders returns elements other than 0 whose values or whose Montgomery forms are
// small, near the modulus, near its half, or powers of 2.
func (f arithmetic) findBorders() []api.Element {
	var l []api.Element
	add := func(x *big.Int) {
		x.Mod(x, f.p)
		if x.Sign() != 0 {
			l = append(l, api.Element(vecOf(x)), f.element(x))
		}
	}
	for _, base := range []*big.Int{new(big.Int), new(big.Int).Rsh(f.p, 1), f.p} {
		for d := int64(-2); d <= 2; d++ {
			add(new(big.Int).Add(base, big.NewInt(d)))
		}
	}
	for i := range uint(f.p.BitLen() - 1) {
		add(new(big.Int).Lsh(big.NewInt(1), i))
	}
	return l
}

// other returns an element other than 0, which often is a border.
func (f arithmetic) other(r *rand.Rand) api.Element {
	x := mont.To(f.Field, api.Vec{r.Uint64(), r.Uint64(), r.Uint64(), r.Uint64()})
	if x == (api.Element{}) || r.Intn(3) == 0 {
		x = f.borders[r.Intn(len(f.borders))]
	}
	return x
}

// random returns n elements, some of which are 0.
func (f arithmetic) random(r *rand.Rand, n int) []api.Element {
	l := make([]api.Element, n)
	for i := range l {
		if r.Intn(4) > 0 {
			l[i] = f.other(r)
		}
	}
	return l
}

// polynomial returns a polynomial with n coefficients, the last one of which is not 0.
func (f arithmetic) polynomial(r *rand.Rand, n int) []api.Element {
	c := f.random(r, n)
	if n > 0 {
		c[n-1] = f.other(r)
	}
	return c
}

// eval returns the values of a polynomial at some points.
func (f arithmetic) eval(c []api.Element, xs []int) []api.Element {
	ys := make([]api.Element, len(xs))
	for i, x := range xs {
		value := new(big.Int)
		for _, coefficient := range slices.Backward(c) {
			value.Mul(value, big.NewInt(int64(x)))
			value.Add(value, f.value(coefficient))
			value.Mod(value, f.p)
		}
		ys[i] = f.element(value)
	}
	return ys
}

// coefficients returns how many coefficients the shortest polynomial through some
// points has. It finds them by differences that are divided, of which those of the
// order n and more are 0 exactly if n coefficients are enough.
func (f arithmetic) coefficients(xs []int, ys []api.Element) int {
	var l []*big.Int
	for _, y := range ys {
		l = append(l, f.value(y))
	}
	needed := 0
	for order := range l {
		if l[0].Sign() != 0 {
			needed = order + 1
		}
		for i := range len(l) - 1 {
			l[i].Sub(l[i+1], l[i])
			span := big.NewInt(int64(xs[i+order+1] - xs[i]))
			l[i].Mul(l[i], span.ModInverse(span, f.p))
			l[i].Mod(l[i], f.p)
		}
		l = l[:len(l)-1]
	}
	return needed
}

// upTo returns the indices from 1 to n.
func upTo(n int) []int {
	var xs []int
	for i := range n {
		xs = append(xs, i+1)
	}
	return xs
}

// indices returns n different indices in an arbitrary order.
func indices(r *rand.Rand, n int) []int {
	xs := r.Perm(api.MaxShares)[:n]
	for i := range xs {
		xs[i]++
	}
	return xs
}

// points returns the lists of indices of points with which the tests compute.
func points() [][]int {
	r := rand.New(rand.NewSource(10))
	l := [][]int{nil, {}, {7}, {255}, {2, 1}, {1, 255}, {255, 1}, {255, 254, 253}, {128, 1, 127, 129, 255}}
	for n := range 8 {
		l = append(l, upTo(n), indices(r, n))
	}
	return append(l, indices(r, 17))
}

// limits returns the numbers of coefficients to which the tests compare n ones.
func limits(n int) []int {
	l := []int{math.MinInt, math.MinInt + 1, -1 << 32, -256, math.MaxInt - 1, math.MaxInt, 1 << 32, 256}
	for k := -3; k <= n+3; k++ {
		l = append(l, k)
	}
	return l
}

// enough reports whether a polynomial that needs n coefficients has at most k ones.
func enough(k, n int) bool { return n <= max(k, 0) }

// maskOf returns the mask of a condition.
func maskOf(condition bool) uint64 {
	if condition {
		return ones
	}
	return 0
}

func checkBelow(t *testing.T, c []api.Element, k int, want bool) {
	t.Helper()
	if got := degree.Below(nil, c, k); got != maskOf(want) {
		t.Errorf("Below of %x and %d is %x", c, k, got)
	}
}

func checkFits(t *testing.T, f arithmetic, xs []int, ys []api.Element, k int, want bool) {
	t.Helper()
	if got, e := degree.Fits(nil, f.Field, xs, ys, k); got != maskOf(want) || e != api.OK {
		t.Errorf("field %d: Fits of %x at %v and %d returns %x and %v", f.ID, ys, xs, k, got, e)
	}
}

func checkAll(t *testing.T, f arithmetic, xs []int, ys [][]api.Element, k int, want bool) {
	t.Helper()
	if got, e := degree.All(nil, f.Field, xs, ys, k); got != maskOf(want) || e != api.OK {
		t.Errorf("field %d: All of %x at %v and %d returns %x and %v", f.ID, ys, xs, k, got, e)
	}
}

// The examples of the chapter.
func TestExamples(t *testing.T) {
	for _, f := range fields(t) {
		xs := []int{1, 2, 3}
		checkFits(t, f, xs, f.list(5, 7, 9), 2, true)
		checkFits(t, f, xs, f.list(5, 7, 9), 1, false)
		checkFits(t, f, xs, f.list(5, 7, 10), 2, false)
	}
}

// The example of the document: two values fit a threshold of 2 whatever they are.
func TestExampleOfTheDocument(t *testing.T) {
	r := rand.New(rand.NewSource(11))
	for _, f := range fields(t) {
		for range 20 {
			checkFits(t, f, indices(r, 2), f.random(r, 2), 2, true)
		}
	}
}

// P10.1: polynomials of all short lengths, whose last coefficients are 0.
func TestBelow(t *testing.T) {
	r := rand.New(rand.NewSource(12))
	for _, f := range fields(t) {
		for n := range 9 {
			for zeros := range 4 {
				c := append(f.polynomial(r, n), make([]api.Element, zeros)...)
				for _, k := range limits(len(c)) {
					checkBelow(t, c, k, enough(k, n))
				}
			}
		}
	}
}

// P10.1: one coefficient that is not 0, of each size, at each index.
func TestBelowOfOneCoefficient(t *testing.T) {
	for _, f := range fields(t) {
		for _, x := range f.borders {
			for i := range 5 {
				c := make([]api.Element, 5)
				c[i] = x
				for k := -1; k <= 6; k++ {
					checkBelow(t, c, k, k > i)
				}
			}
		}
	}
}

// P10.1: no coefficient makes up for another one.
func TestBelowOfTwoCoefficients(t *testing.T) {
	for _, f := range fields(t) {
		for _, x := range f.borders {
			for _, y := range []api.Element{x, mont.Neg(f.Field, x), f.One} {
				for k := range 4 {
					checkBelow(t, []api.Element{x, y, {}}, k, k >= 2)
				}
			}
		}
	}
}

// P10.1: long polynomials, and the zero polynomial of each length.
func TestBelowOfLongLists(t *testing.T) {
	r := rand.New(rand.NewSource(13))
	for _, f := range fields(t) {
		for _, n := range []int{254, 255, 256, 257, 300, 1000} {
			c := append(f.polynomial(r, n), make([]api.Element, n)...)
			for _, k := range []int{math.MinInt, -1, 0, 1, n - 1, n, n + 1, 2 * n, 2*n + 1, math.MaxInt} {
				checkBelow(t, c, k, enough(k, n))
				checkBelow(t, make([]api.Element, n), k, true)
			}
		}
	}
	for _, k := range limits(0) {
		checkBelow(t, nil, k, true)
		checkBelow(t, []api.Element{}, k, true)
	}
}

// P10.2, P10.4: the values of a polynomial fit for as many coefficients as it has,
// and for no fewer if there are as many points.
func TestFits(t *testing.T) {
	r := rand.New(rand.NewSource(14))
	for _, f := range fields(t) {
		for _, xs := range points() {
			for n := range len(xs) + 1 {
				ys := f.eval(f.polynomial(r, n), xs)
				for _, k := range limits(len(xs)) {
					checkFits(t, f, xs, ys, k, enough(k, n))
				}
			}
		}
	}
}

// P10.2: values of all kinds, also of polynomials with more coefficients than there
// are points, compared to divided differences.
func TestFitsAnyValues(t *testing.T) {
	r := rand.New(rand.NewSource(15))
	for _, f := range fields(t) {
		for _, xs := range points() {
			one := make([]api.Element, len(xs))
			if len(xs) > 0 {
				one[r.Intn(len(xs))] = f.other(r)
			}
			lists := [][]api.Element{make([]api.Element, len(xs)), slices.Repeat(f.list(-9), len(xs)), one, f.random(r, len(xs)), f.eval(f.polynomial(r, len(xs)+2), xs)}
			for _, ys := range lists {
				n := f.coefficients(xs, ys)
				for k := -1; k <= len(xs)+1; k++ {
					checkFits(t, f, xs, ys, k, enough(k, n))
				}
			}
		}
	}
}

// P10.2: without a coefficient only values of 0 fit, and with one only equal ones.
func TestFitsFewCoefficients(t *testing.T) {
	for _, f := range fields(t) {
		for _, x := range f.borders[:30] {
			for n := 1; n <= 4; n++ {
				same := slices.Repeat([]api.Element{x}, n)
				for _, k := range []int{math.MinInt, -7, -1, 0} {
					checkFits(t, f, upTo(n), make([]api.Element, n), k, true)
					checkFits(t, f, upTo(n), same, k, false)
				}
				checkFits(t, f, upTo(n), same, 1, true)
			}
		}
	}
}

// P10.4: changing one value, by each amount, makes the values not fit if there are
// more points than coefficients, and with at most as many points all values fit.
func TestOneOtherValue(t *testing.T) {
	r := rand.New(rand.NewSource(16))
	for _, f := range fields(t) {
		for _, xs := range points() {
			for k := range len(xs) + 2 {
				ys := f.eval(f.random(r, k), xs)
				checkFits(t, f, xs, ys, k, true)
				for i := range xs {
					changed := slices.Clone(ys)
					changed[i] = mont.Add(f.Field, changed[i], f.other(r))
					checkFits(t, f, xs, changed, k, len(xs) <= k)
				}
			}
		}
	}
}

// P10.4: each amount by which a value may be changed.
func TestEveryOtherValue(t *testing.T) {
	for _, f := range fields(t) {
		xs, ys := []int{3, 200, 1}, f.list(11, 602, 5) // 2 + 3x
		checkFits(t, f, xs, ys, 2, true)
		for i, x := range f.borders {
			changed := slices.Clone(ys)
			changed[i%len(xs)] = mont.Sub(f.Field, changed[i%len(xs)], x)
			checkFits(t, f, xs, changed, 2, false)
		}
	}
}

// P10.2, P10.4: as many points as there can be.
func TestFitsManyPoints(t *testing.T) {
	r := rand.New(rand.NewSource(17))
	for _, f := range fields(t) {
		for _, n := range []int{1, 128, 254, 255} {
			xs := indices(r, api.MaxShares)
			ys := f.eval(f.polynomial(r, n), xs)
			checkFits(t, f, xs, ys, n, true)
			checkFits(t, f, xs, ys, n-1, false)
			i := r.Intn(len(xs))
			ys[i] = mont.Add(f.Field, ys[i], f.other(r))
			checkFits(t, f, xs, ys, n, n == len(xs))
		}
	}
}

// The order of the points does not matter.
func TestOrderOfPoints(t *testing.T) {
	r := rand.New(rand.NewSource(18))
	for _, f := range fields(t) {
		c := f.polynomial(r, 4)
		for range 20 {
			xs := indices(r, 6)
			ys := f.eval(c, xs)
			checkFits(t, f, xs, ys, 4, true)
			checkFits(t, f, xs, ys, 3, false)
			ys[0], ys[5] = ys[5], ys[0]
			checkFits(t, f, xs, ys, 4, f.coefficients(xs, ys) <= 4)
		}
	}
}

// P10.3: the lists that do not fit are at any positions.
func TestAll(t *testing.T) {
	r := rand.New(rand.NewSource(19))
	for _, f := range fields(t) {
		for _, xs := range [][]int{{9, 4}, {1, 2, 3}, indices(r, 5)} {
			for k := range len(xs) + 2 {
				for bad := range 1 << 4 {
					lists := make([][]api.Element, 4)
					for i := range lists {
						lists[i] = f.eval(f.random(r, k), xs)
						if bad>>i&1 == 1 {
							at := r.Intn(len(xs))
							lists[i][at] = mont.Add(f.Field, lists[i][at], f.other(r))
						}
					}
					checkAll(t, f, xs, lists, k, bad == 0 || k >= len(xs))
				}
			}
		}
	}
}

// P10.3: one list is as it is for Fits, for all numbers of coefficients.
func TestAllOfOneList(t *testing.T) {
	r := rand.New(rand.NewSource(20))
	for _, f := range fields(t) {
		for _, xs := range points() {
			n := r.Intn(len(xs) + 1)
			ys := f.eval(f.polynomial(r, n), xs)
			for _, k := range limits(len(xs)) {
				checkAll(t, f, xs, [][]api.Element{ys}, k, enough(k, n))
			}
		}
	}
}

// P10.3: no lists, and lists for no points.
func TestAllOfNothing(t *testing.T) {
	for _, f := range fields(t) {
		for _, k := range limits(2) {
			for _, xs := range points() {
				checkAll(t, f, xs, nil, k, true)
				checkAll(t, f, xs, [][]api.Element{}, k, true)
			}
			checkAll(t, f, nil, [][]api.Element{nil, {}, nil}, k, true)
		}
	}
}

// P10.3: many lists, of which only the first or the last one does not fit, or none.
func TestAllOfManyLists(t *testing.T) {
	for _, f := range fields(t) {
		xs := []int{1, 2, 3}
		lists := slices.Repeat([][]api.Element{f.list(5, 7, 9), f.list(1, 0, -1)}, 150)
		checkAll(t, f, xs, lists, 2, true)
		for _, i := range []int{0, 255, 256, 299} {
			good := lists[i]
			lists[i] = f.list(5, 7, 10)
			checkAll(t, f, xs, lists, 2, false)
			checkAll(t, f, xs, lists, 3, true)
			lists[i] = good
		}
	}
}

// checkErrors checks that Fits of a list and All of some lists return an error and
// no mask, and record nothing.
func checkErrors(t *testing.T, f arithmetic, xs []int, ys []api.Element, lists [][]api.Element, want api.Errno) {
	t.Helper()
	for _, k := range []int{math.MinInt, 0, 2, math.MaxInt} {
		x := tape.New(api.Event{Kind: api.Deal})
		if got, e := degree.Fits(x, f.Field, xs, ys, k); got != 0 || e != want || x.Len() != 1 {
			t.Errorf("field %d: Fits of %d elements at %v returns %x and %v, and records %d events", f.ID, len(ys), xs, got, e, x.Len()-1)
		}
		if got, e := degree.All(x, f.Field, xs, lists, k); got != 0 || e != want || x.Len() != 1 {
			t.Errorf("field %d: All of %d lists at %v returns %x and %v, and records %d events", f.ID, len(lists), xs, got, e, x.Len()-1)
		}
	}
}

// P10.2, P10.3: the errors of lagrange.Check, also if there are no lists, or lists
// of other lengths.
func TestErrors(t *testing.T) {
	for _, f := range fields(t) {
		for _, n := range []int{0, 1, 2, 3, 4, 300} {
			ys := make([]api.Element, n)
			for _, lists := range [][][]api.Element{nil, {ys}, {ys, nil}, {ys, ys[:n/2], ys}} {
				for _, x := range []int{0, -1, 256, 257, math.MinInt, math.MaxInt} {
					checkErrors(t, f, []int{x}, ys, lists, api.ErrIndex)
					checkErrors(t, f, []int{1, x}, ys, lists, api.ErrIndex)
					checkErrors(t, f, []int{5, 5, x}, ys, lists, api.ErrIndex)
				}
				checkErrors(t, f, []int{5, 5}, ys, lists, api.ErrDuplicate)
				checkErrors(t, f, []int{255, 1, 255}, ys, lists, api.ErrDuplicate)
				checkErrors(t, f, append(upTo(255), 1), ys, lists, api.ErrDuplicate)
			}
		}
	}
}

// P10.2, P10.3: a list with more or fewer elements, at each position, also if it has
// room for more, and if another list does not fit.
func TestOtherLengths(t *testing.T) {
	for _, f := range fields(t) {
		whole := slices.Concat(f.list(5, 7, 10), make([]api.Element, 300))
		for _, xs := range [][]int{nil, {9}, {1, 2}, {200, 2, 31}, upTo(255)} {
			for _, n := range []int{0, 1, 2, 3, 4, 254, 255, 256, 300} {
				if n == len(xs) {
					continue
				}
				checkErrors(t, f, xs, whole[:n], [][]api.Element{whole[:n]}, api.ErrLength)
				for i := range 4 {
					lists := slices.Repeat([][]api.Element{whole[:len(xs)]}, 4)
					lists[i] = whole[:n]
					checkErrors(t, f, xs, whole[:n], lists, api.ErrLength)
				}
			}
		}
	}
}

// Nothing beyond the lengths of the arguments counts, and they are not modified.
func TestArguments(t *testing.T) {
	for _, f := range fields(t) {
		xs, ys := []int{1, 2, 3, 4, 4, 0}, f.list(5, 7, 9, 12, 0, 1)
		lists := [][]api.Element{ys[:3], slices.Clone(ys)[:3], ys[1:4], nil}
		beforeXs, beforeYs, beforeLists := slices.Clone(xs), slices.Clone(ys), slices.Clone(lists)
		for range 2 {
			checkFits(t, f, xs[:3], ys[:3], 2, true)
			checkFits(t, f, xs[:4], ys[:4], 2, false)
			checkAll(t, f, xs[:3], lists[:2], 2, true)
			checkAll(t, f, xs[:3], lists[:3], 2, false)
			checkBelow(t, ys[:5], 4, true)
			checkBelow(t, ys[:3], 3, true)
		}
		same := func(a, b []api.Element) bool { return len(a) == len(b) && (len(a) == 0 || &a[0] == &b[0]) }
		if !slices.Equal(xs, beforeXs) || !slices.Equal(ys, beforeYs) || !slices.EqualFunc(lists, beforeLists, same) {
			t.Errorf("field %d: the arguments are now %v, %x and %x", f.ID, xs, ys, lists)
		}
	}
}
