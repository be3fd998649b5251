package mont_test

import (
	"encoding/binary"
	"math/big"
	"math/rand"
	"slices"
	"testing"

	"sharecore/api"
	"sharecore/field"
	"sharecore/mont"
)

const ones = 1<<64 - 1

// arithmetic is a field with the numbers by which the tests compute in it.
type arithmetic struct {
	field.Field
	p       *big.Int
	radix   *big.Int // 2^256 modulo p
	inverse *big.Int // of radix
}

// fields returns both fields; their moduli are those that the document writes.
func fields(t *testing.T) []arithmetic {
	t.Helper()
	return []arithmetic{
		arithmeticOf(t, api.Field25519, "7fffffffffffffffffffffffffffffffffffffffffffffffffffffffffffffed"),
		arithmeticOf(t, api.FieldP256, "ffffffff00000000ffffffffffffffffbce6faada7179e84f3b9cac2fc632551"),
	}
}

func arithmeticOf(t *testing.T, id int, modulus string) arithmetic {
	t.Helper()
	f, e := field.Get(id)
	if e != api.OK {
		t.Fatalf("Get of %d returns %v", id, e)
	}
	p, _ := new(big.Int).SetString(modulus, 16)
	radix := new(big.Int).Mod(power(256), p)
	return arithmetic{f, p, radix, new(big.Int).ModInverse(radix, p)}
}

// element returns the Montgomery form of a number modulo p.
func (f arithmetic) element(x *big.Int) api.Element {
	product := new(big.Int).Mul(new(big.Int).Mod(x, f.p), f.radix)
	return api.Element(vecOf(product.Mod(product, f.p)))
}

// value returns the number of which an element is the Montgomery form.
func (f arithmetic) value(a api.Element) *big.Int {
	product := new(big.Int).Mul(bigOf(api.Vec(a)), f.inverse)
	return product.Mod(product, f.p)
}

// check checks an element that a call returns, the value of which is x modulo p.
func (f arithmetic) check(t *testing.T, got api.Element, x *big.Int, call string, operands ...any) {
	t.Helper()
	if want := f.element(x); got != want {
		t.Errorf("field %d: %s of %x is %x instead of %x", f.ID, call, operands, got, want)
	}
}

func power(n uint) *big.Int { return new(big.Int).Lsh(big.NewInt(1), n) }

func bigOf(v api.Vec) *big.Int {
	var b []byte
	for _, word := range slices.Backward(v[:]) {
		b = binary.BigEndian.AppendUint64(b, word)
	}
	return new(big.Int).SetBytes(b)
}

// vecOf returns a number that is less than 2^256.
func vecOf(x *big.Int) api.Vec {
	b := x.FillBytes(make([]byte, 32))
	slices.Reverse(b)
	var v api.Vec
	for i := range v {
		v[i] = binary.LittleEndian.Uint64(b[8*i:])
	}
	return v
}

// numbers returns numbers from 0 to 2^256 - 1: those whose words are 0, 1 or the
// greatest word, the multiples and the half of p, single bits, the neighbors of
// these, and n others.
func numbers(p *big.Int, n int) []api.Vec {
	var l []api.Vec
	near := func(x *big.Int) {
		for _, d := range []int64{-2, -1, 0, 1, 2} {
			if y := new(big.Int).Add(x, big.NewInt(d)); y.Sign() >= 0 && y.BitLen() <= 256 {
				l = append(l, vecOf(y))
			}
		}
	}
	borders := []uint64{0, 1, ones}
	for i := range 3 * 3 * 3 * 3 {
		l = append(l, api.Vec{borders[i%3], borders[i/3%3], borders[i/9%3], borders[i/27]})
	}
	for _, x := range []*big.Int{new(big.Int), p, new(big.Int).Lsh(p, 1), new(big.Int).Rsh(p, 1), power(256)} {
		near(x)
	}
	for at := uint(32); at < 256; at += 32 {
		near(power(at))
		near(new(big.Int).Sub(p, power(at)))
	}
	r := rand.New(rand.NewSource(5))
	for range n {
		l = append(l, api.Vec{r.Uint64(), r.Uint64(), r.Uint64(), r.Uint64()})
	}
	return l
}

// elements returns the elements that are numbers of that list, and those with
// these values, so that there are borders of both.
func (f arithmetic) elements() []api.Element {
	seen := map[api.Element]bool{}
	var l []api.Element
	for _, v := range numbers(f.p, 40) {
		x := bigOf(v)
		if x.Cmp(f.p) >= 0 {
			continue
		}
		for _, a := range []api.Element{api.Element(v), f.element(x)} {
			if !seen[a] {
				seen[a] = true
				l = append(l, a)
			}
		}
	}
	return l
}

// few returns some of the elements, for tests of all triples.
func (f arithmetic) few() []api.Element {
	l := []api.Element{{}, f.One, f.element(big.NewInt(2)), f.element(big.NewInt(-1)), f.element(big.NewInt(-2)), {1}, api.Element(vecOf(new(big.Int).Sub(f.p, big.NewInt(1))))}
	all := f.elements()
	for i := 3; i < len(all); i += 13 {
		l = append(l, all[i])
	}
	return l
}

func (f arithmetic) forPairs(each func(a, b api.Element)) {
	l := f.elements()
	for _, a := range l {
		for _, b := range l {
			each(a, b)
		}
	}
}

// The examples of the chapter.
func TestExamples(t *testing.T) {
	for _, f := range fields(t) {
		last := mont.To(f.Field, vecOf(new(big.Int).Sub(f.p, big.NewInt(1))))
		sum := mont.Add(f.Field, last, mont.To(f.Field, api.Vec{2}))
		if got := mont.From(f.Field, sum); got != (api.Vec{1}) {
			t.Errorf("field %d: the sum of p - 1 and 2 is %x", f.ID, got)
		}
		if f.ID != 1 {
			continue
		}
		one := mont.To(f.Field, api.Vec{1})
		if one != (api.Element{38}) {
			t.Errorf("To of 1 is %x", one)
		}
		if got := mont.From(f.Field, one); got != (api.Vec{1}) {
			t.Errorf("From of To of 1 is %x", got)
		}
	}
}

// P5.1
func TestMul(t *testing.T) {
	for _, f := range fields(t) {
		f.forPairs(func(a, b api.Element) {
			product := new(big.Int).Mul(f.value(a), f.value(b))
			f.check(t, mont.Mul(f.Field, a, b), product, "Mul", a, b)
		})
	}
}

// P5.1: sums that are less than p, at least p, and at least 2^256.
func TestAdd(t *testing.T) {
	for _, f := range fields(t) {
		f.forPairs(func(a, b api.Element) {
			sum := new(big.Int).Add(f.value(a), f.value(b))
			f.check(t, mont.Add(f.Field, a, b), sum, "Add", a, b)
		})
	}
}

// P5.1
func TestSub(t *testing.T) {
	for _, f := range fields(t) {
		f.forPairs(func(a, b api.Element) {
			difference := new(big.Int).Sub(f.value(a), f.value(b))
			f.check(t, mont.Sub(f.Field, a, b), difference, "Sub", a, b)
		})
	}
}

// P5.1: sums and differences of elements around 0, the modulus and 2^256, as
// numbers, where the least carry decides.
func TestSumsAroundBorders(t *testing.T) {
	for _, f := range fields(t) {
		for _, a := range f.elements() {
			for _, border := range []*big.Int{new(big.Int), f.p, power(256)} {
				for d := int64(-3); d <= 3; d++ {
					x := new(big.Int).Sub(border, bigOf(api.Vec(a)))
					x.Mod(x.Add(x, big.NewInt(d)), f.p)
					b := api.Element(vecOf(x))
					f.check(t, mont.Add(f.Field, a, b), new(big.Int).Add(f.value(a), f.value(b)), "Add", a, b)
					f.check(t, mont.Sub(f.Field, b, a), new(big.Int).Sub(f.value(b), f.value(a)), "Sub", b, a)
				}
			}
		}
	}
}

// P5.1: the negation of 0 is 0, and not the modulus.
func TestSquareAndNeg(t *testing.T) {
	for _, f := range fields(t) {
		for _, a := range f.elements() {
			v := f.value(a)
			f.check(t, mont.Square(f.Field, a), new(big.Int).Mul(v, v), "Square", a)
			f.check(t, mont.Neg(f.Field, a), new(big.Int).Neg(v), "Neg", a)
		}
		if got := mont.Neg(f.Field, api.Element{}); got != (api.Element{}) {
			t.Errorf("field %d: Neg of 0 is %x", f.ID, got)
		}
	}
}

// P5.1: carries between words are rare for arbitrary elements.
func TestManyProducts(t *testing.T) {
	r := rand.New(rand.NewSource(6))
	word := func() uint64 {
		return []uint64{0, 1, 1 << 63, ones - 1, ones, r.Uint64(), ^(r.Uint64() >> r.Intn(64)), r.Uint64() >> r.Intn(64)}[r.Intn(8)]
	}
	for _, f := range fields(t) {
		element := func() api.Element {
			x := bigOf(api.Vec{word(), word(), word(), word()})
			return api.Element(vecOf(x.Mod(x, f.p)))
		}
		for range 20000 {
			a, b := element(), element()
			f.check(t, mont.Mul(f.Field, a, b), new(big.Int).Mul(f.value(a), f.value(b)), "Mul", a, b)
			f.check(t, mont.Square(f.Field, a), new(big.Int).Mul(f.value(a), f.value(a)), "Square", a)
		}
	}
}

// P5.2: every number, also from the modulus on.
func TestTo(t *testing.T) {
	for _, f := range fields(t) {
		for _, a := range numbers(f.p, 5000) {
			f.check(t, mont.To(f.Field, a), bigOf(a), "To", a)
		}
		for at := range uint(256) {
			a := vecOf(power(at))
			f.check(t, mont.To(f.Field, a), bigOf(a), "To", a)
		}
		if got := mont.To(f.Field, f.Modulus); got != (api.Element{}) {
			t.Errorf("field %d: To of the modulus is %x", f.ID, got)
		}
	}
}

// P5.2
func TestFrom(t *testing.T) {
	for _, f := range fields(t) {
		for _, a := range f.elements() {
			if got, want := mont.From(f.Field, a), vecOf(f.value(a)); got != want {
				t.Errorf("field %d: From of %x is %x instead of %x", f.ID, a, got, want)
			}
		}
	}
}

// P5.3: all words and all elements, also those of no field; only the lowest bit
// of the word counts.
func TestChoose(t *testing.T) {
	words := []uint64{0, 1, 2, 3, 6, 0xfffe, 0xffff, 1 << 32, 1<<32 + 1, 1 << 63, 1<<63 + 1, ones - 1, ones}
	for _, f := range fields(t) {
		l := numbers(f.p, 10)
		for i, a := range l {
			b := l[(i*7+5)%len(l)]
			for _, m := range words {
				want := b
				if m%2 == 1 {
					want = a
				}
				if got := mont.Choose(m, api.Element(a), api.Element(b)); got != api.Element(want) {
					t.Errorf("Choose of %x, %x and %x is %x", m, a, b, got)
				}
			}
		}
	}
}

// P5.3: no number but 0 is the element 0, not even the modulus.
func TestIsZero(t *testing.T) {
	if got := mont.IsZero(api.Element{}); got != ones {
		t.Errorf("IsZero of 0 is %x", got)
	}
	for _, f := range fields(t) {
		l := append(numbers(f.p, 20), f.Modulus, f.Square)
		for at := range uint(256) {
			l = append(l, vecOf(power(at)))
		}
		for _, a := range l {
			want := uint64(0)
			if bigOf(a).Sign() == 0 {
				want = ones
			}
			if got := mont.IsZero(api.Element(a)); got != want {
				t.Errorf("IsZero of %x is %x", a, got)
			}
		}
	}
}

// law checks that both sides of an equation are the same element.
func (f arithmetic) law(t *testing.T, left, right api.Element, law string, operands ...api.Element) {
	t.Helper()
	if left != right {
		t.Errorf("field %d: %s does not hold for %x: %x is not %x", f.ID, law, operands, left, right)
	}
}

// P5.4: the laws of a commutative ring.
func TestRing(t *testing.T) {
	for _, f := range fields(t) {
		add := func(a, b api.Element) api.Element { return mont.Add(f.Field, a, b) }
		mul := func(a, b api.Element) api.Element { return mont.Mul(f.Field, a, b) }
		for _, a := range f.few() {
			f.law(t, add(a, api.Element{}), a, "a + 0 = a", a)
			f.law(t, mul(a, f.One), a, "a * 1 = a", a)
			f.law(t, add(a, mont.Neg(f.Field, a)), api.Element{}, "a + -a = 0", a)
			for _, b := range f.few() {
				f.law(t, add(a, b), add(b, a), "a + b = b + a", a, b)
				f.law(t, mul(a, b), mul(b, a), "a * b = b * a", a, b)
				f.law(t, mont.Sub(f.Field, a, b), add(a, mont.Neg(f.Field, b)), "a - b = a + -b", a, b)
				for _, c := range f.few() {
					f.law(t, add(add(a, b), c), add(a, add(b, c)), "(a + b) + c = a + (b + c)", a, b, c)
					f.law(t, mul(mul(a, b), c), mul(a, mul(b, c)), "(a * b) * c = a * (b * c)", a, b, c)
					f.law(t, mul(a, add(b, c)), add(mul(a, b), mul(a, c)), "a * (b + c) = a * b + a * c", a, b, c)
				}
			}
		}
	}
}

// P5.4: each element but 0 has an inverse, which is its power of p - 2.
func TestInverses(t *testing.T) {
	for _, f := range fields(t) {
		exponent := new(big.Int).Sub(f.p, big.NewInt(2))
		for _, a := range f.few()[1:] {
			inverse := f.One
			for at := exponent.BitLen() - 1; at >= 0; at-- {
				inverse = mont.Square(f.Field, inverse)
				if exponent.Bit(at) == 1 {
					inverse = mont.Mul(f.Field, inverse, a)
				}
			}
			f.law(t, mont.Mul(f.Field, a, inverse), f.One, "a * 1/a = 1", a)
		}
	}
}

// P5.4
func TestFromInvertsTo(t *testing.T) {
	for _, f := range fields(t) {
		for _, v := range numbers(f.p, 200) {
			want := vecOf(new(big.Int).Mod(bigOf(v), f.p))
			if got := mont.From(f.Field, mont.To(f.Field, v)); got != want {
				t.Errorf("field %d: From of To of %x is %x instead of %x", f.ID, v, got, want)
			}
		}
		for _, a := range f.elements() {
			f.law(t, mont.To(f.Field, mont.From(f.Field, a)), a, "To of From is the element", a)
		}
	}
}

// P5.4
func TestOne(t *testing.T) {
	for _, f := range fields(t) {
		if got := mont.From(f.Field, f.One); got != (api.Vec{1}) {
			t.Errorf("field %d: From of One is %x", f.ID, got)
		}
		f.law(t, mont.To(f.Field, api.Vec{1}), f.One, "To of 1 is One")
	}
}
