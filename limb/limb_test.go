package limb_test

import (
	"math"
	"math/big"
	"math/rand"
	"testing"

	"sharecore/api"
	"sharecore/limb"
)

const ones = 1<<64 - 1

// number is a number in both representations.
type number struct {
	vec api.Vec
	big *big.Int
}

// numbers returns numbers at the borders of words, numbers with a single bit,
// their neighbors, and some others.
func numbers() []number {
	var l []number
	add := func(v api.Vec) { l = append(l, number{v, bigOf(v)}) }
	borders := []uint64{0, 1, ones}
	for i := range 3 * 3 * 3 * 3 {
		add(api.Vec{borders[i%3], borders[i/3%3], borders[i/9%3], borders[i/27]})
	}
	for _, at := range []int{1, 31, 32, 62, 63, 64, 65, 127, 128, 191, 192, 254, 255} {
		power := new(big.Int).Lsh(big.NewInt(1), uint(at))
		for _, d := range []int64{-1, 0, 1} {
			add(vecOf(new(big.Int).Add(power, big.NewInt(d))))
			add(vecOf(new(big.Int).Sub(big.NewInt(d), power)))
		}
	}
	random := rand.New(rand.NewSource(3))
	for range 60 {
		add(api.Vec{random.Uint64(), random.Uint64(), random.Uint64(), random.Uint64()})
	}
	return l
}

func bigOf(words api.Vec) *big.Int {
	x := new(big.Int)
	for i := range words {
		x.Lsh(x, 64)
		x.Or(x, new(big.Int).SetUint64(words[len(words)-1-i]))
	}
	return x
}

// vecOf returns the number that is congruent to x modulo 2^256.
func vecOf(x *big.Int) api.Vec {
	var v api.Vec
	rest := new(big.Int).Mod(x, new(big.Int).Lsh(big.NewInt(1), 256))
	for i := range v {
		v[i] = new(big.Int).And(rest, new(big.Int).SetUint64(ones)).Uint64()
		rest.Rsh(rest, 64)
	}
	return v
}

// forPairs calls a function for all pairs of numbers.
func forPairs(each func(a, b number)) {
	l := numbers()
	for _, a := range l {
		for _, b := range l {
			each(a, b)
		}
	}
}

func maskOf(condition bool) uint64 {
	if condition {
		return ones
	}
	return 0
}

func bitOf(condition bool) uint64 { return maskOf(condition) & 1 }

func checkWord(t *testing.T, got, want uint64, call string, operands ...any) {
	t.Helper()
	if got != want {
		t.Errorf("%s of %x is %x instead of %x", call, operands, got, want)
	}
}

func checkVec(t *testing.T, got, want api.Vec, call string, operands ...any) {
	t.Helper()
	if got != want {
		t.Errorf("%s of %x is %x instead of %x", call, operands, got, want)
	}
}

// checkPair checks a number and a word that a call returns.
func checkPair(t *testing.T, call func(a, b api.Vec) (api.Vec, uint64), a, b, want api.Vec, carry uint64, name string) {
	t.Helper()
	got, gotCarry := call(a, b)
	checkVec(t, got, want, name, a, b)
	checkWord(t, gotCarry, carry, "the carry of "+name, a, b)
}

func checkMul(t *testing.T, a, b, wantLo, wantHi api.Vec) {
	t.Helper()
	lo, hi := limb.Mul(a, b)
	checkVec(t, lo, wantLo, "the low half of Mul", a, b)
	checkVec(t, hi, wantHi, "the high half of Mul", a, b)
}

// The examples of the chapter.
func TestExamples(t *testing.T) {
	most := api.Vec{ones, ones, ones, ones}
	checkPair(t, limb.Add, most, api.Vec{1}, api.Vec{}, 1, "Add")
	checkMul(t, api.Vec{0, 0, 0, 1 << 63}, api.Vec{4}, api.Vec{}, api.Vec{2})
	checkWord(t, limb.Bits(api.Vec{0x1234}, 4, 8), 0x23, "Bits")
}

// The words of a number have the weights 2^(64i).
func TestWeights(t *testing.T) {
	checkPair(t, limb.Add, api.Vec{ones, 7}, api.Vec{1, 8}, api.Vec{0, 16}, 0, "Add")
	checkPair(t, limb.Add, api.Vec{0, 0, 0, ones}, api.Vec{0, 0, 0, 2}, api.Vec{0, 0, 0, 1}, 1, "Add")
	checkPair(t, limb.Sub, api.Vec{0, 0, 5}, api.Vec{1}, api.Vec{ones, ones, 4}, 0, "Sub")
	checkPair(t, limb.Sub, api.Vec{3}, api.Vec{0, 0, 0, 1}, api.Vec{3, 0, 0, ones}, 1, "Sub")
	checkMul(t, api.Vec{0, 3}, api.Vec{0, 0, 5}, api.Vec{0, 0, 0, 15}, api.Vec{})
	checkMul(t, api.Vec{0, 0, 3}, api.Vec{0, 0, 0, 5}, api.Vec{}, api.Vec{0, 15})
}

// P3.1
func TestAdd(t *testing.T) {
	forPairs(func(a, b number) {
		sum := new(big.Int).Add(a.big, b.big)
		checkPair(t, limb.Add, a.vec, b.vec, vecOf(sum), bitOf(sum.BitLen() > 256), "Add")
	})
}

// P3.1
func TestSub(t *testing.T) {
	forPairs(func(a, b number) {
		difference := new(big.Int).Sub(a.big, b.big)
		checkPair(t, limb.Sub, a.vec, b.vec, vecOf(difference), bitOf(difference.Sign() < 0), "Sub")
	})
}

// P3.1: a carry passes through any number of words, and not beyond the first one that takes it.
func TestCarries(t *testing.T) {
	for from := range 4 {
		for to := from; to < 4; to++ {
			var a, one, sum api.Vec
			one[from] = 1
			for i := from; i < to; i++ {
				a[i] = ones
			}
			sum[to] = 1
			checkPair(t, limb.Add, a, one, sum, 0, "Add")
			checkPair(t, limb.Sub, sum, one, a, 0, "Sub")
			checkPair(t, limb.Sub, sum, a, one, 0, "Sub")
		}
	}
}

// P3.2
func TestMul(t *testing.T) {
	forPairs(func(a, b number) {
		product := new(big.Int).Mul(a.big, b.big)
		checkMul(t, a.vec, b.vec, vecOf(product), vecOf(new(big.Int).Rsh(product, 256)))
	})
}

// P3.3: only the lowest bit of m counts.
func TestChoose(t *testing.T) {
	choices := []uint64{0, 1, 2, 3, 0xfffe, 0xffff, 1 << 32, 1<<32 + 1, 1 << 63, 1<<63 + 1, ones - 1, ones}
	forPairs(func(a, b number) {
		for _, m := range choices {
			want := b.vec
			if m%2 == 1 {
				want = a.vec
			}
			checkVec(t, limb.Choose(m, a.vec, b.vec), want, "Choose", m, a.vec, b.vec)
		}
	})
}

// P3.3
func TestIsZero(t *testing.T) {
	for _, a := range numbers() {
		checkWord(t, limb.IsZero(a.vec), maskOf(a.big.Sign() == 0), "IsZero", a.vec)
	}
	for at := range 256 {
		a := api.Vec{}
		a[at/64] = 1 << (at % 64)
		checkWord(t, limb.IsZero(a), 0, "IsZero", a)
	}
	checkWord(t, limb.IsZero(api.Vec{}), ones, "IsZero", api.Vec{})
}

// P3.3
func TestEqualAndLess(t *testing.T) {
	forPairs(func(a, b number) {
		order := a.big.Cmp(b.big)
		checkWord(t, limb.Equal(a.vec, b.vec), maskOf(order == 0), "Equal", a.vec, b.vec)
		checkWord(t, limb.Less(a.vec, b.vec), maskOf(order < 0), "Less", a.vec, b.vec)
	})
}

// P3.3: each bit makes a difference, and the highest one that differs decides the order.
func TestOneBit(t *testing.T) {
	for _, n := range numbers() {
		a := n.vec
		for at := range 256 {
			b := a
			b[at/64] ^= 1 << (at % 64)
			checkWord(t, limb.Equal(a, b), 0, "Equal", a, b)
			checkWord(t, limb.Equal(b, a), 0, "Equal", b, a)
			checkWord(t, limb.Less(a, b), maskOf(n.big.Bit(at) == 0), "Less", a, b)
			checkWord(t, limb.Less(b, a), maskOf(n.big.Bit(at) == 1), "Less", b, a)
		}
	}
}

// bitsOf returns the bits that Bits is asked for, one by one.
func bitsOf(a number, at, n int) uint64 {
	var w uint64
	if at < 0 || n < 0 || n > 64 {
		return 0
	}
	for i := range n {
		// No number has a bit from 2^256 on, and at + i may be too large for an int.
		if at < 256 && a.big.Bit(at+i) == 1 {
			w |= 1 << i
		}
	}
	return w
}

// P3.4: all positions with all numbers of bits, and those beyond.
func TestBits(t *testing.T) {
	l := numbers()
	for _, a := range append(l[:6:6], l[len(l)-10:]...) {
		for at := -70; at <= 400; at++ {
			for n := -2; n <= 67; n++ {
				checkWord(t, limb.Bits(a.vec, at, n), bitsOf(a, at, n), "Bits", a.vec, at, n)
			}
		}
	}
}

// P3.4
func TestBitsOfAll(t *testing.T) {
	for _, a := range numbers() {
		for at := 0; at <= 260; at++ {
			for _, n := range []int{0, 1, 4, 63, 64} {
				checkWord(t, limb.Bits(a.vec, at, n), bitsOf(a, at, n), "Bits", a.vec, at, n)
			}
		}
	}
}

// P3.4: positions and numbers of bits may be any numbers.
func TestBitsOfAnyNumbers(t *testing.T) {
	ints := []int{math.MinInt, math.MinInt + 1, math.MinInt32, -256, -128, -65, -64, -63, -1, 0, 1, 64, 65, 128, 255, 256, 257, 319, 320, 321, 512, 1 << 32, 1<<32 + 1, math.MaxInt - 64, math.MaxInt - 63, math.MaxInt - 1, math.MaxInt}
	l := numbers()
	for _, a := range append(l[len(l)-3:], number{api.Vec{ones, ones, ones, ones}, bigOf(api.Vec{ones, ones, ones, ones})}) {
		for _, at := range ints {
			for _, n := range ints {
				checkWord(t, limb.Bits(a.vec, at, n), bitsOf(a, at, n), "Bits", a.vec, at, n)
			}
		}
	}
}

// P3.5
func TestSubInvertsAdd(t *testing.T) {
	forPairs(func(a, b number) {
		sum, carry := limb.Add(a.vec, b.vec)
		difference, borrow := limb.Sub(sum, b.vec)
		checkVec(t, difference, a.vec, "Sub after Add", a.vec, b.vec)
		checkWord(t, borrow, carry, "the borrow of Sub after Add", a.vec, b.vec)
	})
}

// P3.5
func TestMulIsCommutative(t *testing.T) {
	forPairs(func(a, b number) {
		lo, hi := limb.Mul(b.vec, a.vec)
		checkMul(t, a.vec, b.vec, lo, hi)
	})
}

// P3.5: the bits of a number, taken in parts of any size, make up the number.
func TestBitsDetermineNumber(t *testing.T) {
	for _, a := range numbers() {
		for n := 1; n <= 64; n++ {
			x := new(big.Int)
			for at := 0; at < 256; at += n {
				part := new(big.Int).SetUint64(limb.Bits(a.vec, at, n))
				x.Or(x, part.Lsh(part, uint(at)))
			}
			if x.Cmp(a.big) != 0 {
				t.Errorf("the parts of %d bits of %x make up %x", n, a.vec, x)
			}
		}
	}
}
