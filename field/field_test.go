package field_test

import (
	"encoding/binary"
	"math"
	"math/big"
	"math/rand"
	"slices"
	"testing"

	"sharecore/api"
	"sharecore/field"
)

const ones = 1<<64 - 1

// moduli returns the moduli of the fields, as the document writes them.
func moduli() map[int]string {
	return map[int]string{
		api.Field25519: "7fffffffffffffffffffffffffffffffffffffffffffffffffffffffffffffed",
		api.FieldP256:  "ffffffff00000000ffffffffffffffffbce6faada7179e84f3b9cac2fc632551",
	}
}

// power returns 2^n.
func power(n uint) *big.Int { return new(big.Int).Lsh(big.NewInt(1), n) }

func bigOf(v api.Vec) *big.Int {
	var b []byte
	for _, word := range slices.Backward(v[:]) {
		b = binary.BigEndian.AppendUint64(b, word)
	}
	return new(big.Int).SetBytes(b)
}

// vecOf returns the number that is congruent to x modulo 2^256.
func vecOf(x *big.Int) api.Vec {
	var b [32]byte
	new(big.Int).Mod(x, power(256)).FillBytes(b[:])
	return api.Vec{binary.BigEndian.Uint64(b[24:]), binary.BigEndian.Uint64(b[16:]), binary.BigEndian.Uint64(b[8:]), binary.BigEndian.Uint64(b[:])}
}

func get(t *testing.T, id int) field.Field {
	t.Helper()
	f, e := field.Get(id)
	if e != api.OK {
		t.Fatalf("Get of %d returns %v", id, e)
	}
	return f
}

// numbers returns numbers at the borders of words, numbers with a single bit,
// the moduli and their doubles, the neighbors of those, and some others.
func numbers() []api.Vec {
	var l []api.Vec
	near := func(x *big.Int) {
		for _, d := range []int64{-2, -1, 0, 1, 2} {
			l = append(l, vecOf(new(big.Int).Add(x, big.NewInt(d))))
		}
	}
	near(new(big.Int))
	for i := uint(8); i < 256; i += 8 {
		near(power(i))
	}
	for _, hex := range moduli() {
		p, _ := new(big.Int).SetString(hex, 16)
		near(p)
		near(new(big.Int).Lsh(p, 1))
	}
	return append(l, random(20)...)
}

// random returns numbers of any length, of which some words are zeros or ones.
func random(n int) []api.Vec {
	r := rand.New(rand.NewSource(4))
	l := make([]api.Vec, n)
	for i := range l {
		for k := range l[i] {
			l[i][k] = []uint64{0, ones, r.Uint64(), r.Uint64(), r.Uint64() >> r.Intn(64)}[r.Intn(5)]
		}
	}
	return l
}

// fields returns the fields of the package, and others, of which only the moduli count.
func fields(t *testing.T) []field.Field {
	var l []field.Field
	for _, id := range field.All() {
		f := get(t, id)
		l = append(l, f, field.Field{Modulus: f.Modulus}, field.Field{ID: f.ID}, field.Field{ID: 3 - f.ID, Modulus: f.Modulus, Inverse: 7})
	}
	for i, m := range numbers() {
		l = append(l, field.Field{ID: i - 5, Modulus: m, Inverse: uint64(i), One: api.Element{ones, 1, 2, 3}, Square: api.Vec{ones}})
	}
	return l
}

// carries returns words, half of which have the lowest bit 1.
func carries() []uint64 { return []uint64{0, 1, 2, 3, 1 << 32, 1<<32 + 1, 1 << 63, ones - 1, ones} }

// The examples of the chapter.
func TestExamples(t *testing.T) {
	f := get(t, 1)
	if f.One != (api.Element{38}) || f.Square != (api.Vec{1444}) {
		t.Errorf("One is %x, and Square %x", f.One, f.Square)
	}
	if got := f.Subtract(f.Modulus, 0); got != (api.Vec{}) {
		t.Errorf("Subtract of the modulus and the carry 0 is %x", got)
	}
}

// P4.1
func TestGet(t *testing.T) {
	for id, hex := range moduli() {
		f := get(t, id)
		p, _ := new(big.Int).SetString(hex, 16)
		if f.ID != id {
			t.Errorf("field %d: ID is %d", id, f.ID)
		}
		if bigOf(f.Modulus).Cmp(p) != 0 {
			t.Errorf("field %d: Modulus is %x", id, f.Modulus)
		}
		if one := new(big.Int).Mod(power(256), p); bigOf(api.Vec(f.One)).Cmp(one) != 0 {
			t.Errorf("field %d: One is %x instead of %x", id, f.One, one)
		}
		if square := new(big.Int).Mod(power(512), p); bigOf(f.Square).Cmp(square) != 0 {
			t.Errorf("field %d: Square is %x instead of %x", id, f.Square, square)
		}
		product := new(big.Int).Mul(new(big.Int).SetUint64(f.Inverse), p)
		if rest := product.Add(product, big.NewInt(1)).Mod(product, power(64)); rest.Sign() != 0 {
			t.Errorf("field %d: with the Inverse %x, the rest is %x", id, f.Inverse, rest)
		}
	}
}

// P4.1: numbers of no field.
func TestGetWithoutField(t *testing.T) {
	for _, id := range []int{math.MinInt, math.MinInt + 1, math.MinInt32, -256, -2, -1, 0, 3, 4, 255, 256, 257, 258, 1 << 32, 1<<32 + 1, 1<<32 + 2, math.MaxInt - 1, math.MaxInt} {
		f, e := field.Get(id)
		if f != (field.Field{}) || e != api.ErrField {
			t.Errorf("Get of %d returns %v and %v", id, f, e)
		}
	}
}

// P4.1: the fields of All are exactly those of Get.
func TestAll(t *testing.T) {
	want := []int{1, 2}
	if l := field.All(); !slices.Equal(l, want) {
		t.Errorf("All is %d", l)
	}
	for id := -300; id <= 300; id++ {
		if _, e := field.Get(id); (e == api.OK) != slices.Contains(want, id) {
			t.Errorf("Get of %d returns %v", id, e)
		}
	}
}

// P4.1: the results of All share no memory: neither a change of a result nor
// another call changes one.
func TestAllReturnsNewMemory(t *testing.T) {
	first := field.All()
	first[0] = 7
	first = append(first[:1], 8)
	second := field.All()
	if !slices.Equal(second, []int{1, 2}) {
		t.Errorf("All is %d after another result was modified", second)
	}
	if !slices.Equal(first, []int{7, 8}) {
		t.Errorf("a modified result of All is %d after another call", first)
	}
}

// P4.1: a Field that was modified is another one.
func TestGetReturnsValues(t *testing.T) {
	for _, id := range field.All() {
		f, before := get(t, id), get(t, id)
		f.ID, f.Modulus[0], f.Inverse, f.One[3], f.Square[1] = 9, 8, 7, 6, 5
		if get(t, id) != before {
			t.Errorf("Get of %d returns another Field after a result was modified", id)
		}
	}
}

// P4.2
func TestContains(t *testing.T) {
	for _, f := range fields(t) {
		for _, a := range numbers() {
			want := uint64(0)
			if bigOf(a).Cmp(bigOf(f.Modulus)) < 0 {
				want = ones
			}
			if got := f.Contains(a); got != want {
				t.Errorf("Contains with the modulus %x of %x is %x", f.Modulus, a, got)
			}
		}
	}
}

// P4.2: the highest bit in which a number differs from the modulus decides.
func TestContainsOneBit(t *testing.T) {
	for _, f := range fields(t) {
		for at := range 256 {
			a, want := f.Modulus, uint64(0)
			if a[at/64]>>(at%64)&1 == 1 {
				want = ones
			}
			a[at/64] ^= 1 << (at % 64)
			if got := f.Contains(a); got != want {
				t.Errorf("Contains with the modulus %x of %x is %x", f.Modulus, a, got)
			}
		}
	}
}

// P4.3: every Field, every number, and carries of which only the lowest bit counts.
func TestSubtract(t *testing.T) {
	for _, f := range fields(t) {
		m := bigOf(f.Modulus)
		for _, a := range numbers() {
			for _, carry := range carries() {
				x := bigOf(a)
				if carry%2 == 1 {
					x.Add(x, power(256))
				}
				want := vecOf(x)
				if x.Cmp(m) >= 0 {
					want = vecOf(x.Sub(x, m))
				}
				if got := f.Subtract(a, carry); got != want {
					t.Errorf("Subtract with the modulus %x of %x and %x is %x instead of %x", f.Modulus, a, carry, got, want)
				}
			}
		}
	}
}

// P4.4
func TestSubtractReduces(t *testing.T) {
	for _, id := range field.All() {
		f := get(t, id)
		p := bigOf(f.Modulus)
		for _, x := range belowTwice(p) {
			carry := new(big.Int).Rsh(x, 256).Uint64()
			got := f.Subtract(vecOf(x), carry)
			if want := new(big.Int).Mod(x, p); bigOf(got).Cmp(want) != 0 {
				t.Errorf("field %d: Subtract of %x is %x instead of %x", id, x, got, want)
			}
			if f.Contains(got) != ones {
				t.Errorf("field %d: Subtract of %x is %x, which is not less than the modulus", id, x, got)
			}
		}
	}
}

// belowTwice returns the least and the greatest numbers that are less than 2p,
// those around p and 2^256, and sums of two numbers less than p.
func belowTwice(p *big.Int) []*big.Int {
	var l []*big.Int
	twice := new(big.Int).Lsh(p, 1)
	add := func(x *big.Int) {
		if x.Sign() >= 0 && x.Cmp(twice) < 0 {
			l = append(l, x)
		}
	}
	for _, base := range []*big.Int{new(big.Int), p, twice, power(255), power(256)} {
		for d := int64(-20); d <= 20; d++ {
			add(new(big.Int).Add(base, big.NewInt(d)))
		}
	}
	for _, a := range random(40) {
		for _, b := range random(40) {
			x := new(big.Int).Mod(bigOf(a), p)
			add(x.Add(x, new(big.Int).Mod(bigOf(b), p)))
		}
	}
	return l
}
