package lagrange_test

import (
	"encoding/binary"
	"math"
	"math/big"
	"math/rand"
	"slices"
	"testing"

	"sharecore/api"
	"sharecore/field"
	"sharecore/lagrange"
	"sharecore/mont"
	"sharecore/poly"
	"sharecore/tape"
)

const ones = 1<<64 - 1

// arithmetic is a field with its modulus, by which the tests compute in it.
type arithmetic struct {
	field.Field
	p *big.Int
}

// fields returns both fields; their moduli are those that the document writes.
func fields(t *testing.T) []arithmetic {
	t.Helper()
	return []arithmetic{
		arithmeticOf(t, api.Field25519, "7fffffffffffffffffffffffffffffffffffffffffffffffffffffffffffffed"),
		arithmeticOf(t, api.FieldP256, "ffffffff00000000ffffffffffffffffbce6faada7179e84f3b9cac2fc632551"),
	}
}

func arithmeticOf(t *testing.T, id int, modulus string) arithmetic {
	t.Helper()
	f, e := field.Get(id)
	if e != api.OK {
		t.Fatalf("Get of %d returns %v", id, e)
	}
	p, _ := new(big.Int).SetString(modulus, 16)
	return arithmetic{f, p}
}

// element returns the element with a value modulo p.
func (f arithmetic) element(x *big.Int) api.Element {
	return mont.To(f.Field, vecOf(new(big.Int).Mod(x, f.p)))
}

// list returns the elements with small values.
func (f arithmetic) list(l ...int64) []api.Element {
	var elements []api.Element
	for _, x := range l {
		elements = append(elements, f.element(big.NewInt(x)))
	}
	return elements
}

// value returns the value of an element.
func (f arithmetic) value(a api.Element) *big.Int {
	var b []byte
	number := mont.From(f.Field, a)
	for _, word := range slices.Backward(number[:]) {
		b = binary.BigEndian.AppendUint64(b, word)
	}
	return new(big.Int).SetBytes(b)
}

// vecOf returns a number that is less than 2^256.
func vecOf(x *big.Int) api.Vec {
	b := x.FillBytes(make([]byte, 32))
	var v api.Vec
	for i := range v {
		v[i] = binary.BigEndian.Uint64(b[8*(len(v)-1-i):])
	}
	return v
}

// borders returns elements whose values or whose Montgomery forms are small, near
// the modulus, or near its half.
func (f arithmetic) borders() []api.Element {
	var l []api.Element
	for _, base := range []*big.Int{new(big.Int), new(big.Int).Rsh(f.p, 1), f.p} {
		for d := int64(-2); d <= 2; d++ {
			x := new(big.Int).Mod(new(big.Int).Add(base, big.NewInt(d)), f.p)
			l = append(l, api.Element(vecOf(x)), f.element(x))
		}
	}
	return l
}

// random returns n elements, some of which are borders.
func (f arithmetic) random(r *rand.Rand, n int) []api.Element {
	l, borders := make([]api.Element, n), f.borders()
	for i := range l {
		l[i] = mont.To(f.Field, api.Vec{r.Uint64(), r.Uint64(), r.Uint64(), r.Uint64()})
		if r.Intn(3) == 0 {
			l[i] = borders[r.Intn(len(borders))]
		}
	}
	return l
}

// values returns lists of n values of which all are 0, all are the same, only one
// is not 0, and others.
func (f arithmetic) values(r *rand.Rand, n int) [][]api.Element {
	one := make([]api.Element, n)
	if n > 0 {
		one[r.Intn(n)] = f.One
	}
	same := slices.Repeat(f.list(-9), n)
	return [][]api.Element{make([]api.Element, n), same, one, f.random(r, n), f.random(r, n)}
}

// upTo returns the indices from 1 to n.
func upTo(n int) []int {
	var xs []int
	for i := range n {
		xs = append(xs, i+1)
	}
	return xs
}

// indices returns n different indices in an arbitrary order.
func indices(r *rand.Rand, n int) []int {
	xs := r.Perm(api.MaxShares)[:n]
	for i := range xs {
		xs[i]++
	}
	return xs
}

// points returns the lists of indices of points with which the tests compute.
func points() [][]int {
	r := rand.New(rand.NewSource(9))
	l := [][]int{nil, {}, {7}, {255}, {2, 1}, {1, 255}, {255, 1}, {3, 5}, {255, 254, 253}, {128, 1, 127, 129, 255}}
	for n := range 8 {
		l = append(l, upTo(n), indices(r, n), indices(r, n))
	}
	return append(l, indices(r, 16), indices(r, 17), indices(r, 70), upTo(255), indices(r, 255))
}

// weight returns the weight of the point with the position i by its formula.
func (f arithmetic) weight(xs []int, i int) *big.Int {
	product := big.NewInt(1)
	for k, x := range xs {
		if k != i {
			product.Mul(product, big.NewInt(int64(xs[i]-x)))
			product.Mod(product, f.p)
		}
	}
	return product.ModInverse(product, f.p)
}

// coefficient returns the coefficient of the value at the point with the position
// i for the value at zero by its formula.
func (f arithmetic) coefficient(xs []int, i int) *big.Int {
	product := f.weight(xs, i)
	for k, x := range xs {
		if k != i {
			product.Mul(product, big.NewInt(int64(-x)))
			product.Mod(product, f.p)
		}
	}
	return product
}

// eval returns the value of a polynomial.
func (f arithmetic) eval(c []api.Element, x int) api.Element {
	value := new(big.Int)
	for _, coefficient := range slices.Backward(c) {
		value.Mul(value, big.NewInt(int64(x)))
		value.Add(value, f.value(coefficient))
		value.Mod(value, f.p)
	}
	return f.element(value)
}

// evalAll returns the values of a polynomial at some points.
func (f arithmetic) evalAll(c []api.Element, xs []int) []api.Element {
	var ys []api.Element
	for _, x := range xs {
		ys = append(ys, f.eval(c, x))
	}
	return ys
}

// checkList checks the results of a call that returns no error.
func checkList(t *testing.T, what string, got []api.Element, e api.Errno, want []api.Element) {
	t.Helper()
	if e != api.OK || !slices.Equal(got, want) {
		t.Errorf("%s: %x and %v instead of %x", what, got, e, want)
	}
}

func checkCheck(t *testing.T, xs []int, want api.Errno) {
	t.Helper()
	before := slices.Clone(xs)
	if got := lagrange.Check(xs); got != want {
		t.Errorf("Check of %v returns %v instead of %v", before, got, want)
	}
	if !slices.Equal(xs, before) {
		t.Errorf("Check has changed %v to %v", before, xs)
	}
}

// The examples of the chapter.
func TestExamples(t *testing.T) {
	for _, f := range fields(t) {
		got, e := lagrange.Zero(nil, f.Field, []int{1, 2})
		checkList(t, "Zero of 1 and 2", got, e, f.list(2, -1))
		got, e = lagrange.Interpolate(nil, f.Field, []int{1, 2}, f.list(5, 7))
		checkList(t, "5 at 1 and 7 at 2", got, e, f.list(3, 2))
	}
}

// The example of the document: the value at zero is 3 y(1) - 3 y(2) + y(3).
func TestExampleOfTheDocument(t *testing.T) {
	for _, f := range fields(t) {
		got, e := lagrange.Zero(nil, f.Field, []int{1, 2, 3})
		checkList(t, "Zero of 1, 2 and 3", got, e, f.list(3, -3, 1))
	}
}

// P9.1: lists without errors.
func TestCheck(t *testing.T) {
	for _, xs := range points() {
		checkCheck(t, xs, api.OK)
	}
	for x := range api.MaxShares {
		checkCheck(t, []int{x + 1}, api.OK)
	}
}

// others returns numbers that are no indices.
func others() []int {
	return []int{0, -1, -255, 256, 257, 1<<16 + 1, 1<<32 + 1, math.MinInt, math.MinInt + 1, math.MaxInt}
}

// P9.1: a number that is no index, at each position, also after or before equal ones.
func TestCheckOfOtherNumbers(t *testing.T) {
	for _, x := range others() {
		checkCheck(t, []int{x, x}, api.ErrIndex)
		for i := range 6 {
			checkCheck(t, slices.Insert(upTo(5), i, x), api.ErrIndex)
			checkCheck(t, slices.Insert([]int{9, 1, 9, 1, 9}, i, x), api.ErrIndex)
		}
		checkCheck(t, append(upTo(255), x), api.ErrIndex)
		checkCheck(t, append(slices.Repeat([]int{3}, 1000), x), api.ErrIndex)
	}
}

// P9.1: equal numbers at all pairs of positions, and several of them.
func TestCheckOfEqualNumbers(t *testing.T) {
	for n := range 8 {
		for k := range n {
			for i := range k {
				xs := upTo(n)
				xs[k] = xs[i]
				checkCheck(t, xs, api.ErrDuplicate)
			}
		}
	}
	for x := range api.MaxShares {
		checkCheck(t, append(upTo(255), x+1), api.ErrDuplicate)
	}
	checkCheck(t, []int{4, 4, 4}, api.ErrDuplicate)
	checkCheck(t, slices.Repeat([]int{255, 1}, 500), api.ErrDuplicate)
}

// P9.1, P9.2: nothing beyond the length of a list counts.
func TestLengthOfList(t *testing.T) {
	for _, f := range fields(t) {
		xs := []int{1, 2, 2, 0}
		checkCheck(t, xs[:2], api.OK)
		checkCheck(t, xs[:3], api.ErrDuplicate)
		checkCheck(t, xs, api.ErrIndex)
		got, e := lagrange.Zero(nil, f.Field, xs[:2])
		checkList(t, "Zero of 1 and 2", got, e, f.list(2, -1))
	}
}

// P9.2
func TestWeights(t *testing.T) {
	for _, f := range fields(t) {
		for _, xs := range points() {
			var want []api.Element
			for i := range xs {
				want = append(want, f.element(f.weight(xs, i)))
			}
			got, e := lagrange.Weights(nil, f.Field, xs)
			checkList(t, "Weights", got, e, want)
		}
	}
}

// P9.2
func TestZero(t *testing.T) {
	for _, f := range fields(t) {
		for _, xs := range points() {
			var want []api.Element
			for i := range xs {
				want = append(want, f.element(f.coefficient(xs, i)))
			}
			got, e := lagrange.Zero(nil, f.Field, xs)
			checkList(t, "Zero", got, e, want)
		}
	}
}

// P9.2: a single point has the weight and the coefficient 1, and no points none.
func TestFewPoints(t *testing.T) {
	for _, f := range fields(t) {
		for x := range api.MaxShares {
			got, e := lagrange.Weights(nil, f.Field, []int{x + 1})
			checkList(t, "Weights of one point", got, e, f.list(1))
			got, e = lagrange.Zero(nil, f.Field, []int{x + 1})
			checkList(t, "Zero of one point", got, e, f.list(1))
		}
		got, e := lagrange.Weights(nil, f.Field, nil)
		checkList(t, "Weights of no points", got, e, nil)
		got, e = lagrange.Zero(nil, f.Field, []int{})
		checkList(t, "Zero of no points", got, e, nil)
	}
}

// P9.2: the coefficients for the points from 1 to n are binomial coefficients with
// alternating signs.
func TestZeroIsBinomial(t *testing.T) {
	for _, f := range fields(t) {
		for n := int64(1); n <= 20; n++ {
			var want []api.Element
			for i := int64(1); i <= n; i++ {
				x := new(big.Int).Binomial(n, i)
				if i%2 == 0 {
					x.Neg(x)
				}
				want = append(want, f.element(x))
			}
			got, e := lagrange.Zero(nil, f.Field, upTo(int(n)))
			checkList(t, "Zero", got, e, want)
		}
	}
}

// P9.3
func TestDot(t *testing.T) {
	r := rand.New(rand.NewSource(10))
	for _, f := range fields(t) {
		for _, n := range []int{0, 1, 2, 3, 4, 17, 255, 300} {
			for _, a := range f.values(r, n) {
				for _, b := range f.values(r, n) {
					want := new(big.Int)
					for i := range n {
						want.Add(want, new(big.Int).Mul(f.value(a[i]), f.value(b[i])))
					}
					got, e := lagrange.Dot(nil, f.Field, a, b)
					checkList(t, "Dot", []api.Element{got}, e, []api.Element{f.element(want)})
				}
			}
		}
	}
}

// P9.3: pairs of all borders.
func TestDotOfBorders(t *testing.T) {
	for _, f := range fields(t) {
		for _, x := range f.borders() {
			for _, y := range f.borders() {
				want := f.element(new(big.Int).Mul(f.value(x), f.value(y)))
				got, e := lagrange.Dot(nil, f.Field, []api.Element{x}, []api.Element{y})
				checkList(t, "Dot", []api.Element{got}, e, []api.Element{want})
			}
		}
	}
}

// P9.3: lists of other lengths, also if one of them has room for more.
func TestDotOfOtherLengths(t *testing.T) {
	for _, f := range fields(t) {
		whole := slices.Repeat(f.list(3), 12)
		for n := range 8 {
			for m := range 8 {
				if n == m {
					continue
				}
				x := tape.New()
				got, e := lagrange.Dot(x, f.Field, whole[:n], whole[:m])
				if got != (api.Element{}) || e != api.ErrLength || x.Len() != 0 {
					t.Errorf("field %d: Dot of %d and %d elements returns %x and %v, and records %d events", f.ID, n, m, got, e, x.Len())
				}
			}
		}
	}
}

// P9.4: the polynomial has as many elements as there are points, and the values.
func TestInterpolate(t *testing.T) {
	r := rand.New(rand.NewSource(11))
	for _, f := range fields(t) {
		for _, xs := range points() {
			for _, ys := range f.values(r, len(xs)) {
				got, e := lagrange.Interpolate(nil, f.Field, xs, ys)
				if len(got) != len(xs) {
					t.Fatalf("field %d: the polynomial through %d points has %d elements", f.ID, len(xs), len(got))
				}
				checkList(t, "the values", f.evalAll(got, xs), e, ys)
			}
		}
	}
}

// P9.4: the only polynomial of one point is a constant, and that of no points 0.
func TestInterpolateFewPoints(t *testing.T) {
	for _, f := range fields(t) {
		for _, y := range f.borders() {
			got, e := lagrange.Interpolate(nil, f.Field, []int{200}, []api.Element{y})
			checkList(t, "a constant", got, e, []api.Element{y})
		}
		got, e := lagrange.Interpolate(nil, f.Field, nil, []api.Element{})
		checkList(t, "no points", got, e, nil)
	}
}

// P9.4: the order of the points does not matter.
func TestOrderOfPoints(t *testing.T) {
	r := rand.New(rand.NewSource(12))
	for _, f := range fields(t) {
		for _, xs := range points() {
			ys := f.random(r, len(xs))
			want, e := lagrange.Interpolate(nil, f.Field, xs, ys)
			checkList(t, "the values", f.evalAll(want, xs), e, ys)
			slices.Reverse(xs)
			slices.Reverse(ys)
			got, e := lagrange.Interpolate(nil, f.Field, xs, ys)
			checkList(t, "the polynomial of the reversed points", got, e, want)
		}
	}
}

// checkError checks that all functions of points return an error and nothing else,
// and record nothing.
func checkError(t *testing.T, f field.Field, xs []int, ys []api.Element, want api.Errno) {
	t.Helper()
	x := tape.New(api.Event{Kind: api.Deal})
	c, e := lagrange.Interpolate(x, f, xs, ys)
	if len(c) != 0 || e != want || x.Len() != 1 {
		t.Errorf("Interpolate of %v and %d elements: %x, %v and %d events", xs, len(ys), c, e, x.Len())
	}
	if want == api.ErrLength {
		return
	}
	w, e := lagrange.Weights(x, f, xs)
	z, g := lagrange.Zero(x, f, xs)
	if len(w) != 0 || len(z) != 0 || e != want || g != want || x.Len() != 1 {
		t.Errorf("Weights and Zero of %v: %x and %v, %x and %v, and %d events", xs, w, e, z, g, x.Len())
	}
}

// P9.2, P9.4: the errors of Check, which precede that of other lengths.
func TestErrors(t *testing.T) {
	for _, f := range fields(t) {
		lengths := []int{0, 1, 2, 3, 4, 5, 300}
		for _, n := range lengths {
			ys := make([]api.Element, n)
			for _, x := range others() {
				checkError(t, f.Field, []int{x}, ys, api.ErrIndex)
				checkError(t, f.Field, []int{1, 2, x}, ys, api.ErrIndex)
				checkError(t, f.Field, []int{5, 5, x, 6}, ys, api.ErrIndex)
			}
			checkError(t, f.Field, []int{5, 5}, ys, api.ErrDuplicate)
			checkError(t, f.Field, []int{255, 1, 2, 255}, ys, api.ErrDuplicate)
			checkError(t, f.Field, append(upTo(255), 1), ys, api.ErrDuplicate)
		}
	}
}

// P9.4: more or fewer elements than points, also with room for more elements.
func TestOtherLengths(t *testing.T) {
	for _, f := range fields(t) {
		whole := make([]api.Element, 300)
		for _, n := range []int{0, 1, 2, 3, 4, 254, 255, 256, 300} {
			for _, xs := range [][]int{nil, {9}, {1, 2}, {200, 2, 31}, upTo(255)} {
				if len(xs) != n {
					checkError(t, f.Field, xs, whole[:n], api.ErrLength)
				}
			}
		}
	}
}

// P9.6: the value at zero by the coefficients is that of the polynomial.
func TestValueAtZero(t *testing.T) {
	r := rand.New(rand.NewSource(13))
	for _, f := range fields(t) {
		for _, xs := range points() {
			coefficients, _ := lagrange.Zero(nil, f.Field, xs)
			for _, ys := range f.values(r, len(xs)) {
				c, _ := lagrange.Interpolate(nil, f.Field, xs, ys)
				want := poly.Eval(nil, f.Field, c, api.Element{})
				got, e := lagrange.Dot(nil, f.Field, coefficients, ys)
				checkList(t, "the value at zero", []api.Element{got}, e, []api.Element{want})
			}
		}
	}
}

// P9.6: the values of a polynomial with as few elements yield it, also if the last
// or all of them are 0.
func TestPolynomials(t *testing.T) {
	r := rand.New(rand.NewSource(14))
	for _, f := range fields(t) {
		for _, xs := range points() {
			for _, zeros := range []int{0, 1, len(xs) / 2, len(xs)} {
				c := f.random(r, len(xs))
				clear(c[max(len(c)-zeros, 0):])
				got, e := lagrange.Interpolate(nil, f.Field, xs, f.evalAll(c, xs))
				checkList(t, "the polynomial", got, e, c)
				got, e = lagrange.Zero(nil, f.Field, xs)
				value, g := lagrange.Dot(nil, f.Field, got, f.evalAll(c, xs))
				if e != api.OK || g != api.OK || len(c) > 0 && value != c[0] {
					t.Errorf("field %d: the value of %x at zero is %x, with %v and %v", f.ID, c, value, e, g)
				}
			}
		}
	}
}

// calls returns the lists that all functions return.
func (f arithmetic) calls(xs []int, ys []api.Element) [][]api.Element {
	w, _ := lagrange.Weights(nil, f.Field, xs)
	z, _ := lagrange.Zero(nil, f.Field, xs)
	c, _ := lagrange.Interpolate(nil, f.Field, xs, ys)
	x, _ := lagrange.Dot(nil, f.Field, ys, ys)
	return [][]api.Element{w, z, c, {x}}
}

// The results share no memory with the arguments or with other results, the
// arguments are not modified, and nothing beyond their lengths is touched.
func TestResultsAreNewMemory(t *testing.T) {
	for _, f := range fields(t) {
		for n := range 6 {
			allXs, allYs := []int{9, 200, 31, 2, 255, 1, 77}, f.list(2, 3, 5, 7, 11, 13, 17)
			xs, ys := allXs[:n], allYs[:n]
			beforeXs, beforeYs := slices.Clone(allXs), slices.Clone(allYs)
			first, second := f.calls(xs, ys), f.calls(xs, ys)
			for _, l := range first {
				clear(l)
				_ = append(l, f.list(19, 23, 29)...)
			}
			if !slices.Equal(allXs, beforeXs) || !slices.Equal(allYs, beforeYs) {
				t.Errorf("field %d: the arguments are now %v and %x", f.ID, allXs, allYs)
			}
			for i, l := range f.calls(xs, ys) {
				checkList(t, "the result of a second call", second[i], api.OK, l)
			}
		}
	}
}
