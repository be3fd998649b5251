package bytecode_test

import (
	"bytes"
	"encoding/binary"
	"math"
	"math/big"
	"math/rand"
	"slices"
	"testing"

	"sharecore/api"
	"sharecore/bytecode"
	"sharecore/field"
)

// arithmetic is a field with its modulus, by which the tests compute in it.
type arithmetic struct {
	field.Field
	p *big.Int
}

// fields returns both fields; their moduli are those that the document writes.
func fields(t *testing.T) []arithmetic {
	t.Helper()
	return []arithmetic{
		arithmeticOf(t, api.Field25519, "7fffffffffffffffffffffffffffffffffffffffffffffffffffffffffffffed"),
		arithmeticOf(t, api.FieldP256, "ffffffff00000000ffffffffffffffffbce6faada7179e84f3b9cac2fc632551"),
	}
}

func arithmeticOf(t *testing.T, id int, modulus string) arithmetic {
	t.Helper()
	f, e := field.Get(id)
	if e != api.OK {
		t.Fatalf("Get of %d returns %v", id, e)
	}
	p, _ := new(big.Int).SetString(modulus, 16)
	return arithmetic{f, p}
}

// element returns the element whose value is x modulo p, by the definition of
// Montgomery forms.
func (f arithmetic) element(x *big.Int) api.Element {
	form := new(big.Int).Lsh(x, 256)
	b := form.Mod(form, f.p).FillBytes(make([]byte, 32))
	var e api.Element
	for i := range e {
		e[i] = binary.BigEndian.Uint64(b[8*(len(e)-1-i):])
	}
	return e
}

// bytesOf returns the n bytes that represent a number.
func bytesOf(x *big.Int, n int) []byte {
	b := x.FillBytes(make([]byte, n))
	slices.Reverse(b)
	return b
}

// numberOf returns the number that bytes represent.
func numberOf(b []byte) *big.Int {
	b = bytes.Clone(b)
	slices.Reverse(b)
	return new(big.Int).SetBytes(b)
}

func power(n uint) *big.Int { return new(big.Int).Lsh(big.NewInt(1), n) }

func randomBytes(r *rand.Rand, n int) []byte {
	b := make([]byte, n)
	r.Read(b)
	return b
}

// around returns the numbers from x - 3 to x + 3 that are of at most n bytes.
func around(x *big.Int, n int) []*big.Int {
	var l []*big.Int
	for d := int64(-3); d <= 3; d++ {
		if y := new(big.Int).Add(x, big.NewInt(d)); y.Sign() >= 0 && y.BitLen() <= 8*n {
			l = append(l, y)
		}
	}
	return l
}

// numbers returns numbers of at most n bytes: those around powers of two, those
// around multiples of the modulus, those of equal bytes, and others.
func (f arithmetic) numbers(n int) []*big.Int {
	var l []*big.Int
	for bit := range uint(8*n + 1) {
		l = append(l, around(power(bit), n)...)
	}
	for shift := range uint(8*n - 254) {
		l = append(l, around(new(big.Int).Lsh(f.p, shift), n)...)
	}
	for c := range 256 {
		l = append(l, numberOf(bytes.Repeat([]byte{byte(c)}, n)))
	}
	r := rand.New(rand.NewSource(7))
	for range 300 {
		l = append(l, numberOf(randomBytes(r, n)))
	}
	return append(l, new(big.Int))
}

// values returns the numbers of numbers(32) that are less than the modulus, with
// those that differ from the modulus by one bit.
func (f arithmetic) values() []*big.Int {
	l := f.numbers(32)
	for bit := range 256 {
		l = append(l, new(big.Int).SetBit(f.p, bit, 1-f.p.Bit(bit)))
	}
	return slices.DeleteFunc(l, func(x *big.Int) bool { return x.Cmp(f.p) >= 0 })
}

// conversion is a function from bytes to elements.
type conversion func(field.Field, []byte) (api.Element, api.Errno)

// check checks the result for one string of bytes, which stand amid others.
func (f arithmetic) check(t *testing.T, name string, convert conversion, b []byte, want api.Element, wantError api.Errno) {
	t.Helper()
	amid := slices.Concat([]byte{1, 255}, b, []byte{255, 1})
	before := bytes.Clone(amid)
	got, e := convert(f.Field, amid[2:len(amid)-2])
	if got != want || e != wantError {
		t.Errorf("field %d: %s of %x returns %x and %v instead of %x and %v", f.ID, name, b, got, e, want, wantError)
	}
	if !bytes.Equal(amid, before) {
		t.Errorf("field %d: %s of %x has changed bytes", f.ID, name, b)
	}
}

// checkLengths checks that strings of all lengths but the given ones are rejected.
func (f arithmetic) checkLengths(t *testing.T, name string, convert conversion, given func(n int) bool) {
	t.Helper()
	for n := range 200 {
		if given(n) {
			continue
		}
		for _, c := range []byte{0, 1, 255} {
			f.check(t, name, convert, bytes.Repeat([]byte{c}, n), api.Element{}, api.ErrLength)
		}
	}
}

// The examples of the chapter.
func TestExamples(t *testing.T) {
	for _, f := range fields(t) {
		b := bytecode.Encode(f.Field, f.element(big.NewInt(258)))
		if !bytes.Equal(b, append([]byte{2, 1}, make([]byte, 30)...)) {
			t.Errorf("field %d: the bytes of 258 are %x", f.ID, b)
		}
		f.check(t, "Wide", bytecode.Wide, make([]byte, 64), api.Element{}, api.OK)
	}
}

// P7.1
func TestEncode(t *testing.T) {
	for _, f := range fields(t) {
		for _, x := range f.values() {
			got := bytecode.Encode(f.Field, f.element(x))
			if want := bytesOf(x, api.ByteLen); !bytes.Equal(got, want) {
				t.Errorf("field %d: the bytes of %x are %x instead of %x", f.ID, x, got, want)
			}
		}
	}
}

// P7.1 and P7.5: two results share no memory.
func TestResultsAreNewMemory(t *testing.T) {
	for _, f := range fields(t) {
		x := f.element(big.NewInt(0x30201))
		encode := func() []byte { return bytecode.Encode(f.Field, x) }
		unpack := func() []byte {
			b, _ := bytecode.Unpack(f.Field, x, 5)
			return b
		}
		for _, call := range []func() []byte{encode, unpack} {
			first, second := call(), call()
			before := bytes.Clone(second)
			for i := range first {
				first[i] = 255
			}
			if _ = append(first, 255); !bytes.Equal(second, before) || !bytes.Equal(call(), before) {
				t.Errorf("field %d: results share memory", f.ID)
			}
		}
	}
}

// P7.2: all values are accepted, and no other numbers.
func TestDecode(t *testing.T) {
	for _, f := range fields(t) {
		for _, x := range slices.Concat(f.numbers(api.ByteLen), f.values()) {
			want, wantError := f.element(x), api.OK
			if x.Cmp(f.p) >= 0 {
				want, wantError = api.Element{}, api.ErrCanonical
			}
			f.check(t, "Decode", bytecode.Decode, bytesOf(x, api.ByteLen), want, wantError)
		}
	}
}

// P7.2: numbers that differ from the modulus in one byte.
func TestDecodeNearModulus(t *testing.T) {
	for _, f := range fields(t) {
		modulus := bytesOf(f.p, api.ByteLen)
		for i, old := range modulus {
			for c := range 256 {
				b := bytes.Clone(modulus)
				b[i] = byte(c)
				want, wantError := f.element(numberOf(b)), api.OK
				if byte(c) >= old {
					want, wantError = api.Element{}, api.ErrCanonical
				}
				f.check(t, "Decode", bytecode.Decode, b, want, wantError)
			}
		}
	}
}

// P7.2: a wrong length is reported first, also of numbers that are less than the
// modulus or not.
func TestDecodeLengths(t *testing.T) {
	for _, f := range fields(t) {
		f.checkLengths(t, "Decode", bytecode.Decode, func(n int) bool { return n == api.ByteLen })
		f.check(t, "Decode", bytecode.Decode, nil, api.Element{}, api.ErrLength)
		longer := append(bytesOf(f.p, api.ByteLen), 0)
		f.check(t, "Decode", bytecode.Decode, longer, api.Element{}, api.ErrLength)
	}
}

// P7.3
func TestWide(t *testing.T) {
	for _, f := range fields(t) {
		for _, x := range f.numbers(api.WideLen) {
			f.check(t, "Wide", bytecode.Wide, bytesOf(x, api.WideLen), f.element(x), api.OK)
		}
	}
}

// P7.3: every byte at every index.
func TestWideOfOneByte(t *testing.T) {
	for _, f := range fields(t) {
		for i := range api.WideLen {
			for c := range 256 {
				b := make([]byte, api.WideLen)
				b[i] = byte(c)
				f.check(t, "Wide", bytecode.Wide, b, f.element(numberOf(b)), api.OK)
			}
		}
	}
}

// P7.3: both halves are below, at or above the modulus.
func TestWideHalves(t *testing.T) {
	for _, f := range fields(t) {
		halves := append(around(f.p, 32), new(big.Int), big.NewInt(1), new(big.Int).Sub(power(256), big.NewInt(1)))
		for _, low := range halves {
			for _, high := range halves {
				b := append(bytesOf(low, 32), bytesOf(high, 32)...)
				f.check(t, "Wide", bytecode.Wide, b, f.element(numberOf(b)), api.OK)
			}
		}
	}
}

// P7.3
func TestWideLengths(t *testing.T) {
	for _, f := range fields(t) {
		f.checkLengths(t, "Wide", bytecode.Wide, func(n int) bool { return n == api.WideLen })
		f.check(t, "Wide", bytecode.Wide, nil, api.Element{}, api.ErrLength)
	}
}

// P7.4 and P7.6: every length, also 0; Unpack inverts Pack.
func TestPack(t *testing.T) {
	r := rand.New(rand.NewSource(8))
	for _, f := range fields(t) {
		f.check(t, "Pack", bytecode.Pack, nil, api.Element{}, api.OK)
		for n := range api.ChunkLen + 1 {
			l := [][]byte{make([]byte, n), bytes.Repeat([]byte{255}, n), bytes.Repeat([]byte{1}, n)}
			for range 50 {
				l = append(l, randomBytes(r, n))
			}
			for _, b := range l {
				x := f.element(numberOf(b))
				f.check(t, "Pack", bytecode.Pack, b, x, api.OK)
				f.checkUnpack(t, x, n, b, api.OK)
			}
		}
	}
}

// P7.4
func TestPackLengths(t *testing.T) {
	for _, f := range fields(t) {
		f.checkLengths(t, "Pack", bytecode.Pack, func(n int) bool { return n <= api.ChunkLen })
	}
}

func (f arithmetic) checkUnpack(t *testing.T, x api.Element, n int, want []byte, wantError api.Errno) {
	t.Helper()
	got, e := bytecode.Unpack(f.Field, x, n)
	if !bytes.Equal(got, want) || e != wantError {
		t.Errorf("field %d: Unpack of %d bytes of %x returns %x and %v instead of %x and %v", f.ID, n, x, got, e, want, wantError)
	}
}

// P7.5: every number of bytes, also of values that have fewer or more of them.
func TestUnpack(t *testing.T) {
	for _, f := range fields(t) {
		for _, x := range f.values() {
			b := bytesOf(x, api.ByteLen)
			for n := range api.ChunkLen + 1 {
				want, wantError := b[:n], api.OK
				if x.BitLen() > 8*n {
					want, wantError = nil, api.ErrPadding
				}
				f.checkUnpack(t, f.element(x), n, want, wantError)
			}
		}
	}
}

// P7.5: each bit of each of the other bytes counts, and several do not cancel out.
func TestUnpackPadding(t *testing.T) {
	for _, f := range fields(t) {
		for n := range api.ChunkLen + 1 {
			for bit := 8 * n; bit < 254; bit++ {
				f.checkUnpack(t, f.element(power(uint(bit))), n, nil, api.ErrPadding)
			}
			twice := make([]byte, api.ByteLen)
			for i := n; i < api.ByteLen; i++ {
				twice[i] = 64
			}
			f.checkUnpack(t, f.element(numberOf(twice)), n, nil, api.ErrPadding)
		}
	}
}

// P7.5: a wrong number of bytes is reported first.
func TestUnpackLengths(t *testing.T) {
	for _, f := range fields(t) {
		for _, x := range []*big.Int{new(big.Int), big.NewInt(1), new(big.Int).Sub(f.p, big.NewInt(1))} {
			for _, n := range []int{math.MinInt, -256, -32, -31, -1, 32, 33, 64, 256, math.MaxInt} {
				f.checkUnpack(t, f.element(x), n, nil, api.ErrLength)
			}
		}
	}
}

// P7.6: Decode inverts Encode.
func TestDecodeInvertsEncode(t *testing.T) {
	for _, f := range fields(t) {
		for _, x := range f.values() {
			e := f.element(x)
			f.check(t, "Decode", bytecode.Decode, bytecode.Encode(f.Field, e), e, api.OK)
		}
	}
}

// P7.6: bytes that Decode accepts are the encoding of the element.
func TestAcceptedBytesAreEncodings(t *testing.T) {
	for _, f := range fields(t) {
		for _, x := range f.numbers(api.ByteLen) {
			b := bytesOf(x, api.ByteLen)
			e, err := bytecode.Decode(f.Field, b)
			if got := bytecode.Encode(f.Field, e); err == api.OK && !bytes.Equal(got, b) {
				t.Errorf("field %d: Decode of %x returns %x, whose bytes are %x", f.ID, b, e, got)
			}
		}
	}
}
