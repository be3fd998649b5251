package poly_test

import (
	"encoding/binary"
	"math/big"
	"math/rand"
	"slices"
	"testing"

	"sharecore/api"
	"sharecore/field"
	"sharecore/mont"
	"sharecore/poly"
)

const ones = 1<<64 - 1

// arithmetic is a field with its modulus, by which the tests compute in it.
type arithmetic struct {
	field.Field
	p *big.Int
}

// fields returns both fields; their moduli are those that the document writes.
func fields(t *testing.T) []arithmetic {
	t.Helper()
	return []arithmetic{
		arithmeticOf(t, api.Field25519, "7fffffffffffffffffffffffffffffffffffffffffffffffffffffffffffffed"),
		arithmeticOf(t, api.FieldP256, "ffffffff00000000ffffffffffffffffbce6faada7179e84f3b9cac2fc632551"),
	}
}

func arithmeticOf(t *testing.T, id int, modulus string) arithmetic {
	t.Helper()
	f, e := field.Get(id)
	if e != api.OK {
		t.Fatalf("Get of %d returns %v", id, e)
	}
	p, _ := new(big.Int).SetString(modulus, 16)
	return arithmetic{f, p}
}

// element returns the element with a value modulo p.
func (f arithmetic) element(x *big.Int) api.Element {
	return mont.To(f.Field, vecOf(new(big.Int).Mod(x, f.p)))
}

// list returns the elements with small values.
func (f arithmetic) list(l ...int64) []api.Element {
	var elements []api.Element
	for _, x := range l {
		elements = append(elements, f.element(big.NewInt(x)))
	}
	return elements
}

// number returns the element with a small value.
func (f arithmetic) number(x int64) api.Element { return f.list(x)[0] }

// value returns the value of an element.
func (f arithmetic) value(a api.Element) *big.Int { return bigOf(mont.From(f.Field, a)) }

// values returns the values of elements.
func (f arithmetic) values(l []api.Element) []*big.Int {
	values := make([]*big.Int, len(l))
	for i, x := range l {
		values[i] = f.value(x)
	}
	return values
}

// elementsOf returns the elements with values modulo p.
func (f arithmetic) elementsOf(l []*big.Int) []api.Element {
	elements := make([]api.Element, len(l))
	for i, x := range l {
		elements[i] = f.element(x)
	}
	return elements
}

func bigOf(v api.Vec) *big.Int {
	var b []byte
	for _, word := range slices.Backward(v[:]) {
		b = binary.BigEndian.AppendUint64(b, word)
	}
	return new(big.Int).SetBytes(b)
}

// vecOf returns a number that is less than 2^256.
func vecOf(x *big.Int) api.Vec {
	b := x.FillBytes(make([]byte, 32))
	var v api.Vec
	for i := range v {
		v[i] = binary.BigEndian.Uint64(b[8*(len(v)-1-i):])
	}
	return v
}

// borders returns elements whose values or whose Montgomery forms are small, near
// the modulus, or near its half.
func (f arithmetic) borders() []api.Element {
	var l []api.Element
	for _, base := range []*big.Int{new(big.Int), new(big.Int).Rsh(f.p, 1), f.p} {
		for d := int64(-2); d <= 2; d++ {
			x := new(big.Int).Mod(new(big.Int).Add(base, big.NewInt(d)), f.p)
			l = append(l, api.Element(vecOf(x)), f.element(x))
		}
	}
	return l
}

func (f arithmetic) random(r *rand.Rand) api.Element {
	return mont.To(f.Field, api.Vec{r.Uint64(), r.Uint64(), r.Uint64(), r.Uint64()})
}

// polynomial returns n coefficients, some of which are borders.
func (f arithmetic) polynomial(r *rand.Rand, n int) []api.Element {
	l, borders := make([]api.Element, n), f.borders()
	for i := range l {
		l[i] = f.random(r)
		if r.Intn(3) == 0 {
			l[i] = borders[r.Intn(len(borders))]
		}
	}
	return l
}

// polynomials returns polynomials of many lengths, in which zeros stand at the
// end, at the beginning, between others, or everywhere.
func (f arithmetic) polynomials() [][]api.Element {
	r := rand.New(rand.NewSource(8))
	minus := f.number(-1)
	l := [][]api.Element{nil, {}, {f.One}, {minus}, {minus, minus, minus}, f.list(1, 2, 3)}
	for n := range 7 {
		l = append(l, make([]api.Element, n), f.polynomial(r, n), f.polynomial(r, n))
		l = append(l, slices.Concat(f.polynomial(r, n), f.list(0, 0)), slices.Concat(f.list(0, 0), f.polynomial(r, n)))
		l = append(l, slices.Concat(f.polynomial(r, 1), make([]api.Element, n), f.polynomial(r, 1)))
	}
	return append(l, f.polynomial(r, 16), f.polynomial(r, 17), f.polynomial(r, 70), f.polynomial(r, 255))
}

// arguments returns values of the variable.
func (f arithmetic) arguments() []api.Element {
	r := rand.New(rand.NewSource(9))
	l := append(f.borders(), f.list(3, 10, 255)...)
	return append(l, f.random(r), f.random(r), f.random(r))
}

// eval returns the value of a polynomial, as the sum of all terms.
func (f arithmetic) eval(c []api.Element, x api.Element) api.Element {
	sum := new(big.Int)
	for i, coefficient := range f.values(c) {
		power := new(big.Int).Exp(f.value(x), big.NewInt(int64(i)), f.p)
		sum.Add(sum, power.Mul(power, coefficient))
	}
	return f.element(sum)
}

// sum returns the sum of two polynomials.
func (f arithmetic) sum(a, b []api.Element) []api.Element {
	sum := f.values(make([]api.Element, max(len(a), len(b))))
	for _, l := range [][]*big.Int{f.values(a), f.values(b)} {
		for i, x := range l {
			sum[i].Add(sum[i], x)
		}
	}
	return f.elementsOf(sum)
}

// multiple returns a multiple of a polynomial.
func (f arithmetic) multiple(c []api.Element, x api.Element) []api.Element {
	product := f.values(c)
	for _, y := range product {
		y.Mul(y, f.value(x))
	}
	return f.elementsOf(product)
}

// product returns the product of two polynomials: the coefficient with each index
// is a sum of the products of all coefficients whose indices have it as their sum.
func (f arithmetic) product(a, b []api.Element) []api.Element {
	if len(a) == 0 || len(b) == 0 {
		return nil
	}
	left, right := f.values(a), f.values(b)
	product := make([]*big.Int, len(a)+len(b)-1)
	for n := range product {
		product[n] = new(big.Int)
		for i := max(0, n-len(b)+1); i <= min(n, len(a)-1); i++ {
			product[n].Add(product[n], new(big.Int).Mul(left[i], right[n-i]))
		}
	}
	return f.elementsOf(product)
}

func checkList(t *testing.T, what string, got, want []api.Element) {
	t.Helper()
	if !slices.Equal(got, want) {
		t.Errorf("%s is %x instead of %x", what, got, want)
	}
}

// The examples of the chapter.
func TestExamples(t *testing.T) {
	for _, f := range fields(t) {
		if got := poly.Eval(nil, f.Field, f.list(1, 2, 3), f.number(10)); got != f.number(321) {
			t.Errorf("field %d: the value of 1 + 2x + 3x^2 at 10 is %v", f.ID, f.value(got))
		}
		checkList(t, "(1 + x)(1 - x)", poly.Mul(nil, f.Field, f.list(1, 1), f.list(1, -1)), f.list(1, 0, -1))
	}
}

// The examples of the document that concern this layer only.
func TestExamplesOfTheDocument(t *testing.T) {
	for _, f := range fields(t) {
		checkList(t, "(1 + 2x)(3 + 4x)", poly.Mul(nil, f.Field, f.list(1, 2), f.list(3, 4)), f.list(3, 10, 8))
		if a, b := poly.Eval(nil, f.Field, f.list(5, 3), f.One), poly.Eval(nil, f.Field, f.list(7, 1), f.One); a != f.number(8) || b != a {
			t.Errorf("field %d: the values of 5 + 3x and of 7 + x at 1 are %v and %v", f.ID, f.value(a), f.value(b))
		}
	}
}

// P8.1
func TestEval(t *testing.T) {
	for _, f := range fields(t) {
		for _, c := range f.polynomials() {
			for _, x := range f.arguments() {
				if got, want := poly.Eval(nil, f.Field, c, x), f.eval(c, x); got != want {
					t.Errorf("field %d: the value of %x at %x is %x instead of %x", f.ID, c, x, got, want)
				}
			}
		}
	}
}

// P8.1: the value at 0 is the first coefficient, and the empty list is 0.
func TestEvalOfBorders(t *testing.T) {
	for _, f := range fields(t) {
		for _, x := range f.arguments() {
			if got := poly.Eval(nil, f.Field, nil, x); got != (api.Element{}) {
				t.Errorf("field %d: the value of the empty list at %x is %x", f.ID, x, got)
			}
			if got := poly.Eval(nil, f.Field, []api.Element{x}, f.number(5)); got != x {
				t.Errorf("field %d: the value of the constant %x is %x", f.ID, x, got)
			}
			if got := poly.Eval(nil, f.Field, []api.Element{x, f.One, f.One}, api.Element{}); got != x {
				t.Errorf("field %d: the value at 0 is %x instead of %x", f.ID, got, x)
			}
		}
	}
}

// P8.2
func TestAdd(t *testing.T) {
	for _, f := range fields(t) {
		for _, a := range f.polynomials() {
			for _, b := range f.polynomials() {
				checkList(t, "the sum", poly.Add(nil, f.Field, a, b), f.sum(a, b))
			}
		}
	}
}

// P8.2: a sum has as many elements as the longer list, even if the last ones are 0.
func TestAddKeepsZeros(t *testing.T) {
	for _, f := range fields(t) {
		for _, c := range f.polynomials() {
			negated := poly.Scale(nil, f.Field, c, f.number(-1))
			checkList(t, "c - c", poly.Add(nil, f.Field, c, negated), make([]api.Element, len(c)))
			checkList(t, "c + 0", poly.Add(nil, f.Field, c, nil), c)
			checkList(t, "0 + c", poly.Add(nil, f.Field, nil, c), c)
			checkList(t, "c + c", poly.Add(nil, f.Field, c, c), f.multiple(c, f.number(2)))
		}
	}
}

// P8.2: a multiple has as many elements as the list, also if all of them are 0.
func TestScale(t *testing.T) {
	for _, f := range fields(t) {
		for _, c := range f.polynomials() {
			for _, x := range f.arguments() {
				checkList(t, "the multiple", poly.Scale(nil, f.Field, c, x), f.multiple(c, x))
			}
			checkList(t, "0 times c", poly.Scale(nil, f.Field, c, api.Element{}), make([]api.Element, len(c)))
		}
	}
}

// P8.2
func TestMul(t *testing.T) {
	for _, f := range fields(t) {
		for _, a := range f.polynomials() {
			for _, b := range f.polynomials() {
				if len(a)*len(b) <= 70*70 {
					checkList(t, "the product", poly.Mul(nil, f.Field, a, b), f.product(a, b))
				}
			}
		}
	}
}

// P8.2: a product has one element less than both lists together, even if the last
// ones are 0, and none if one of them is empty.
func TestLengthsOfProducts(t *testing.T) {
	for _, f := range fields(t) {
		for n := range 6 {
			for m := range 6 {
				want := n + m - 1
				if n == 0 || m == 0 {
					want = 0
				}
				got := poly.Mul(nil, f.Field, make([]api.Element, n), make([]api.Element, m))
				checkList(t, "the product of zeros", got, make([]api.Element, want))
			}
		}
	}
}

// P8.3: c is the quotient times the linear polynomial, plus the rest, which is the
// value of c.
func TestQuotient(t *testing.T) {
	for _, f := range fields(t) {
		for _, c := range f.polynomials() {
			for _, x := range f.arguments() {
				quotient, rest := poly.Quotient(nil, f.Field, c, x)
				if len(quotient) != max(len(c)-1, 0) {
					t.Fatalf("field %d: the quotient of %d elements has %d", f.ID, len(c), len(quotient))
				}
				linear := []api.Element{mont.Neg(f.Field, x), f.One}
				back := f.sum(f.product(quotient, linear), []api.Element{rest})
				want := f.sum(c, []api.Element{{}})
				if !slices.Equal(back, want) || rest != f.eval(c, x) {
					t.Errorf("field %d: dividing %x by the variable minus %x yields %x and the rest %x", f.ID, c, x, quotient, rest)
				}
			}
		}
	}
}

// P8.3: a polynomial of at most one element has no quotient, and is the rest.
func TestQuotientOfShortLists(t *testing.T) {
	for _, f := range fields(t) {
		for _, x := range f.arguments() {
			if q, r := poly.Quotient(nil, f.Field, nil, x); len(q) != 0 || r != (api.Element{}) {
				t.Errorf("field %d: dividing the empty list yields %x and %x", f.ID, q, r)
			}
			if q, r := poly.Quotient(nil, f.Field, []api.Element{x}, f.number(4)); len(q) != 0 || r != x {
				t.Errorf("field %d: dividing the constant %x yields %x and %x", f.ID, x, q, r)
			}
			q, r := poly.Quotient(nil, f.Field, []api.Element{f.One, x}, f.number(4))
			if !slices.Equal(q, []api.Element{x}) || r != f.eval([]api.Element{f.One, x}, f.number(4)) {
				t.Errorf("field %d: dividing 1 + %x x yields %x and %x", f.ID, x, q, r)
			}
		}
	}
}

// P8.3: dividing by the variable itself leaves out the first element, and dividing
// a product by its linear factor leaves no rest.
func TestQuotientOfProducts(t *testing.T) {
	for _, f := range fields(t) {
		for _, c := range f.polynomials() {
			shifted := slices.Concat(f.list(7), c)
			if q, r := poly.Quotient(nil, f.Field, shifted, api.Element{}); !slices.Equal(q, c) || r != f.number(7) {
				t.Errorf("field %d: dividing %x by the variable yields %x and %x", f.ID, shifted, q, r)
			}
			for _, x := range f.arguments() {
				product := poly.Mul(nil, f.Field, c, []api.Element{mont.Neg(f.Field, x), f.One})
				if q, r := poly.Quotient(nil, f.Field, product, x); !slices.Equal(q, c) || r != (api.Element{}) {
					t.Errorf("field %d: dividing %x by its factor yields %x and %x", f.ID, product, q, r)
				}
			}
		}
	}
}

// P8.5
func TestValuesOfSumsAndProducts(t *testing.T) {
	for _, f := range fields(t) {
		l := f.polynomials()
		for i, a := range l {
			b := l[(i*5+3)%len(l)]
			for _, x := range f.arguments() {
				left, right := poly.Eval(nil, f.Field, a, x), poly.Eval(nil, f.Field, b, x)
				if got := poly.Eval(nil, f.Field, poly.Add(nil, f.Field, a, b), x); got != mont.Add(f.Field, left, right) {
					t.Errorf("field %d: the value of the sum of %x and %x at %x is %x", f.ID, a, b, x, got)
				}
				if got := poly.Eval(nil, f.Field, poly.Scale(nil, f.Field, a, right), x); got != mont.Mul(f.Field, left, right) {
					t.Errorf("field %d: the value of %x times %x at %x is %x", f.ID, a, right, x, got)
				}
			}
			product := poly.Mul(nil, f.Field, a, b)
			for _, x := range f.arguments()[:8] {
				left, right := poly.Eval(nil, f.Field, a, x), poly.Eval(nil, f.Field, b, x)
				if got := poly.Eval(nil, f.Field, product, x); got != mont.Mul(f.Field, left, right) {
					t.Errorf("field %d: the value of the product of %x and %x at %x is %x", f.ID, a, b, x, got)
				}
			}
		}
	}
}

// calls returns the lists that all functions return for a and b, of which Quotient
// gets a only.
func (f arithmetic) calls(a, b []api.Element) [][]api.Element {
	x := f.number(3)
	quotient, _ := poly.Quotient(nil, f.Field, a, x)
	return [][]api.Element{
		poly.Add(nil, f.Field, a, b), poly.Scale(nil, f.Field, a, x), poly.Mul(nil, f.Field, a, b), quotient,
	}
}

// P8.2: the results share no memory with the arguments or with other results, the
// arguments are not modified, and nothing beyond their lengths is touched.
func TestResultsAreNewMemory(t *testing.T) {
	for _, f := range fields(t) {
		for _, n := range []int{0, 1, 2, 3, 5} {
			for _, m := range []int{0, 1, 2, 3, 5} {
				whole := f.list(2, 3, 5, 7, 11, 13, 17, 19, 23, 29, 31, 37)
				before := slices.Clone(whole)
				// The lists overlap, and have room for more elements.
				a, b := whole[:n], whole[1:1+m]
				first, second := f.calls(a, b), f.calls(a, b)
				for i, l := range first {
					clear(l)
					_ = append(l, f.list(41, 43, 47)...)
					checkList(t, "the argument", whole, before)
					checkList(t, "the result of a second call", second[i], f.calls(a, b)[i])
				}
			}
		}
	}
}

// P8.2: a list may be both arguments.
func TestEqualArguments(t *testing.T) {
	for _, f := range fields(t) {
		for _, c := range f.polynomials() {
			if len(c) <= 70 {
				checkList(t, "the square", poly.Mul(nil, f.Field, c, c), f.product(c, c))
			}
			checkList(t, "the sum", poly.Add(nil, f.Field, c, c), f.sum(c, c))
		}
	}
}
