package power_test

import (
	"encoding/binary"
	"math/big"
	"math/rand"
	"slices"
	"testing"

	"sharecore/api"
	"sharecore/field"
	"sharecore/mont"
	"sharecore/power"
)

const ones = 1<<64 - 1

// arithmetic is a field with its modulus, by which the tests compute in it.
type arithmetic struct {
	field.Field
	p *big.Int
}

// fields returns both fields; their moduli are those that the document writes.
func fields(t *testing.T) []arithmetic {
	t.Helper()
	return []arithmetic{
		arithmeticOf(t, api.Field25519, "7fffffffffffffffffffffffffffffffffffffffffffffffffffffffffffffed"),
		arithmeticOf(t, api.FieldP256, "ffffffff00000000ffffffffffffffffbce6faada7179e84f3b9cac2fc632551"),
	}
}

func arithmeticOf(t *testing.T, id int, modulus string) arithmetic {
	t.Helper()
	f, e := field.Get(id)
	if e != api.OK {
		t.Fatalf("Get of %d returns %v", id, e)
	}
	p, _ := new(big.Int).SetString(modulus, 16)
	return arithmetic{f, p}
}

// element returns the element with a value modulo p.
func (f arithmetic) element(x *big.Int) api.Element {
	return mont.To(f.Field, vecOf(new(big.Int).Mod(x, f.p)))
}

// number returns the element with a small value.
func (f arithmetic) number(x int64) api.Element { return f.element(big.NewInt(x)) }

// value returns the value of an element.
func (f arithmetic) value(a api.Element) *big.Int { return bigOf(mont.From(f.Field, a)) }

// inverse returns the inverse of an element by the specification.
func (f arithmetic) inverse(a api.Element) api.Element {
	if a == (api.Element{}) {
		return a
	}
	return f.element(new(big.Int).ModInverse(f.value(a), f.p))
}

// inverses returns the inverses of all elements of l by the specification.
func (f arithmetic) inverses(l []api.Element) []api.Element {
	var inverses []api.Element
	for _, x := range l {
		inverses = append(inverses, f.inverse(x))
	}
	return inverses
}

func bigOf(v api.Vec) *big.Int {
	var b []byte
	for _, word := range slices.Backward(v[:]) {
		b = binary.BigEndian.AppendUint64(b, word)
	}
	return new(big.Int).SetBytes(b)
}

// vecOf returns a number that is less than 2^256.
func vecOf(x *big.Int) api.Vec {
	b := x.FillBytes(make([]byte, 32))
	var v api.Vec
	for i := range v {
		v[i] = binary.BigEndian.Uint64(b[8*(len(v)-1-i):])
	}
	return v
}

// elements returns elements whose values or whose Montgomery forms are small, near
// the modulus, or near its half, and n others.
func (f arithmetic) elements(n int) []api.Element {
	var l []api.Element
	for _, base := range []*big.Int{new(big.Int), new(big.Int).Rsh(f.p, 1), f.p} {
		for d := int64(-3); d <= 3; d++ {
			x := new(big.Int).Mod(new(big.Int).Add(base, big.NewInt(d)), f.p)
			l = append(l, api.Element(vecOf(x)), f.element(x))
		}
	}
	r := rand.New(rand.NewSource(6))
	for range n {
		l = append(l, mont.To(f.Field, randomVec(r)))
	}
	return l
}

func randomVec(r *rand.Rand) api.Vec {
	return api.Vec{r.Uint64(), r.Uint64(), r.Uint64(), r.Uint64()}
}

// exponents returns exponents that are small, near powers of two, near the modulus
// and the greatest number, those in which all windows have the same digit, and n others.
func (f arithmetic) exponents(n int) []api.Vec {
	l := []api.Vec{{ones, ones, ones, ones}, {ones - 1, ones, ones, ones}}
	for x := range uint64(35) {
		l = append(l, api.Vec{x})
	}
	for digit := range uint64(16) {
		word := digit * 0x1111111111111111
		l = append(l, api.Vec{word, word, word, word})
	}
	for i := range 4 {
		var low, high, all api.Vec
		low[i], high[i], all[i] = 1, 1<<63, ones
		l = append(l, low, high, all)
	}
	for d := int64(-3); d <= 3; d++ {
		l = append(l, vecOf(new(big.Int).Add(f.p, big.NewInt(d))))
	}
	r := rand.New(rand.NewSource(7))
	for range n {
		l = append(l, randomVec(r))
	}
	return l
}

func (f arithmetic) checkPow(t *testing.T, x api.Element, e api.Vec) {
	t.Helper()
	want := f.element(new(big.Int).Exp(f.value(x), bigOf(e), f.p))
	if got := power.Pow(nil, f.Field, x, e); got != want {
		t.Errorf("field %d: %x to the power of %x is %x instead of %x", f.ID, x, e, got, want)
	}
}

func (f arithmetic) checkBatch(t *testing.T, l []api.Element) {
	t.Helper()
	before := slices.Clone(l)
	if got, want := power.Batch(nil, f.Field, l), f.inverses(l); !slices.Equal(got, want) {
		t.Errorf("field %d: Batch of %x is %x instead of %x", f.ID, l, got, want)
	}
	if !slices.Equal(l, before) {
		t.Errorf("field %d: Batch has changed its argument %x to %x", f.ID, before, l)
	}
}

// The examples of the chapter.
func TestExamples(t *testing.T) {
	for _, f := range fields(t) {
		two := f.number(2)
		if got := mont.From(f.Field, power.Pow(nil, f.Field, two, api.Vec{10})); got != (api.Vec{1024}) {
			t.Errorf("field %d: 2 to the power of 10 is %x", f.ID, got)
		}
		half := new(big.Int).Rsh(new(big.Int).Add(f.p, big.NewInt(1)), 1)
		if got := f.value(power.Inverse(nil, f.Field, two)); got.Cmp(half) != 0 {
			t.Errorf("field %d: the inverse of 2 is %x", f.ID, got)
		}
	}
}

// P6.1
func TestPow(t *testing.T) {
	for _, f := range fields(t) {
		for _, x := range f.elements(10) {
			for _, e := range f.exponents(20) {
				f.checkPow(t, x, e)
			}
		}
	}
}

// P6.1: every digit in every window.
func TestPowOfOneDigit(t *testing.T) {
	for _, f := range fields(t) {
		for window := range 64 {
			for digit := range uint64(16) {
				var e api.Vec
				e[window/16] = digit << (4 * (window % 16))
				f.checkPow(t, f.number(3), e)
			}
		}
	}
}

// P6.1: any value to the power of 0 is 1, also 0; other powers of 0 are 0.
func TestPowOfZero(t *testing.T) {
	for _, f := range fields(t) {
		for _, x := range f.elements(10) {
			if got := power.Pow(nil, f.Field, x, api.Vec{}); got != f.One {
				t.Errorf("field %d: %x to the power of 0 is %x", f.ID, x, got)
			}
		}
		for _, e := range f.exponents(20) {
			if got := power.Pow(nil, f.Field, api.Element{}, e); e != (api.Vec{}) && got != (api.Element{}) {
				t.Errorf("field %d: 0 to the power of %x is %x", f.ID, e, got)
			}
		}
	}
}

// P6.2
func TestInverse(t *testing.T) {
	for _, f := range fields(t) {
		for _, x := range f.elements(300) {
			got := power.Inverse(nil, f.Field, x)
			if want := f.inverse(x); got != want {
				t.Errorf("field %d: the inverse of %x is %x instead of %x", f.ID, x, got, want)
			}
			if product := mont.Mul(f.Field, x, got); x != (api.Element{}) && product != f.One {
				t.Errorf("field %d: %x times its inverse is %x", f.ID, x, product)
			}
		}
		if got := power.Inverse(nil, f.Field, api.Element{}); got != (api.Element{}) {
			t.Errorf("field %d: the inverse of 0 is %x", f.ID, got)
		}
	}
}

// P6.3: elements 0 at all sets of positions.
func TestBatchWithZeros(t *testing.T) {
	for _, f := range fields(t) {
		for n := range 6 {
			for zeros := range 1 << n {
				var l []api.Element
				for i := range n {
					x := f.number(int64(i + 2))
					if zeros>>i&1 == 1 {
						x = api.Element{}
					}
					l = append(l, x)
				}
				f.checkBatch(t, l)
			}
		}
	}
}

// P6.3: long lists, and elements that occur several times.
func TestBatch(t *testing.T) {
	for _, f := range fields(t) {
		l := f.elements(300)
		f.checkBatch(t, l)
		f.checkBatch(t, slices.Concat(l, l))
		for _, x := range l[:40] {
			f.checkBatch(t, []api.Element{x})
			f.checkBatch(t, []api.Element{x, x, x})
		}
		f.checkBatch(t, []api.Element{})
		f.checkBatch(t, nil)
	}
}

// P6.3: the result shares no memory with the argument or with another result, and
// the elements beyond the length of the argument are not touched.
func TestBatchReturnsNewMemory(t *testing.T) {
	for _, f := range fields(t) {
		whole := []api.Element{f.number(2), f.One, f.number(3), f.number(4)}
		l, before := whole[:2], slices.Clone(whole)
		first, second := power.Batch(nil, f.Field, l), power.Batch(nil, f.Field, l)
		for i := range first {
			first[i] = api.Element{}
		}
		if _ = append(first, f.number(5)); !slices.Equal(whole, before) {
			t.Errorf("field %d: the result shares memory with the argument", f.ID)
		}
		if !slices.Equal(second, f.inverses(l)) {
			t.Errorf("field %d: two results share memory", f.ID)
		}
		if third := power.Batch(nil, f.Field, l); !slices.Equal(third, second) {
			t.Errorf("field %d: the results of equal calls are %x and %x", f.ID, second, third)
		}
	}
}

// P6.5: the exponents are added without reaching 2^256.
func TestAddedExponents(t *testing.T) {
	limit := new(big.Int).Lsh(big.NewInt(1), 256)
	for _, f := range fields(t) {
		l := f.exponents(20)
		for i, a := range l {
			b := l[(i*7+5)%len(l)]
			sum := new(big.Int).Add(bigOf(a), bigOf(b))
			if sum.Cmp(limit) >= 0 {
				b = api.Vec{^a[0], ^a[1], ^a[2], ^a[3]}
				sum.Sub(limit, big.NewInt(1))
			}
			for _, x := range f.elements(2) {
				product := mont.Mul(f.Field, power.Pow(nil, f.Field, x, a), power.Pow(nil, f.Field, x, b))
				if got := power.Pow(nil, f.Field, x, vecOf(sum)); got != product {
					t.Errorf("field %d: the powers of %x to %x and to %x have the product %x, but that to the sum is %x", f.ID, x, a, b, product, got)
				}
			}
		}
	}
}

// P6.5
func TestInverseOfInverse(t *testing.T) {
	for _, f := range fields(t) {
		l := f.elements(100)
		for _, x := range l {
			if got := power.Inverse(nil, f.Field, power.Inverse(nil, f.Field, x)); got != x {
				t.Errorf("field %d: the inverse of the inverse of %x is %x", f.ID, x, got)
			}
		}
		if got := power.Batch(nil, f.Field, power.Batch(nil, f.Field, l)); !slices.Equal(got, l) {
			t.Errorf("field %d: Batch of Batch of %x is %x", f.ID, l, got)
		}
	}
}
