package sha_test

import (
	"crypto/sha256"
	"math/big"
	"testing"
)

// primes returns the first n prime numbers.
func primes(n int) []int64 {
	var l []int64
	for p := int64(2); len(l) < n; p++ {
		if big.NewInt(p).ProbablyPrime(0) { // exact for numbers of 64 bits
			l = append(l, p)
		}
	}
	return l
}

// fraction returns the first 32 bits of the fractional part of the root of n of a degree, which it finds bit by bit.
func fraction(n, degree int64) uint32 {
	scaled := new(big.Int).Lsh(big.NewInt(n), uint(32*degree))
	root := new(big.Int)
	for i := 40; i >= 0; i-- {
		root.SetBit(root, i, 1)
		if new(big.Int).Exp(root, big.NewInt(degree), nil).Cmp(scaled) > 0 {
			root.SetBit(root, i, 0)
		}
	}
	return uint32(root.Uint64())
}

// fractions returns those of the first n prime numbers.
func fractions(n int, degree int64) []uint32 {
	var l []uint32
	for _, p := range primes(n) {
		l = append(l, fraction(p, degree))
	}
	return l
}

var (
	roots     = fractions(8, 2)
	cubeRoots = fractions(64, 3)
)

// padded returns b with the padding, whose zeros it appends one by one.
func padded(b []byte) []byte {
	p := append([]byte{}, b...)
	p = append(p, 128)
	for len(p)%64 != 56 {
		p = append(p, 0)
	}
	bits := 8 * uint64(len(b))
	for shift := 56; shift >= 0; shift -= 8 {
		p = append(p, byte(bits>>shift))
	}
	return p
}

func rotr(x uint32, n int) uint32 { return x>>n | x<<(32-n) }

// plain computes the sum of b as the chapter describes it, in its words.
func plain(b []byte) [32]byte {
	s := append([]uint32{}, roots...)
	for p := padded(b); len(p) > 0; p = p[64:] {
		var W [64]uint32
		for t := range W {
			if t < 16 {
				g := p[4*t:]
				W[t] = uint32(g[0])<<24 | uint32(g[1])<<16 | uint32(g[2])<<8 | uint32(g[3])
				continue
			}
			x, y := W[t-2], W[t-15]
			s1 := rotr(x, 17) ^ rotr(x, 19) ^ x>>10
			s0 := rotr(y, 7) ^ rotr(y, 18) ^ y>>3
			W[t] = s1 + W[t-7] + s0 + W[t-16]
		}
		a, b, c, d, e, f, g, h := s[0], s[1], s[2], s[3], s[4], s[5], s[6], s[7]
		for t := range W {
			S1 := rotr(e, 6) ^ rotr(e, 11) ^ rotr(e, 25)
			ch := (e & f) ^ (^e & g)
			T1 := h + S1 + ch + cubeRoots[t] + W[t]
			S0 := rotr(a, 2) ^ rotr(a, 13) ^ rotr(a, 22)
			maj := (a & b) ^ (a & c) ^ (b & c)
			T2 := S0 + maj
			h, g, f, e, d, c, b, a = g, f, e, d+T1, c, b, a, T1+T2
		}
		for i, x := range []uint32{a, b, c, d, e, f, g, h} {
			s[i] += x
		}
	}
	var sum [32]byte
	for i := range sum {
		sum[i] = byte(s[i/4] >> (24 - 8*(i%4)))
	}
	return sum
}

// The chapter names FIPS 180-4, and describes the same function in its words: the function plain and the library's package agree, so that tests may compare with either.
func TestPlain(t *testing.T) {
	if roots[0] != 0x6a09e667 || roots[7] != 0x5be0cd19 || cubeRoots[0] != 0x428a2f98 || cubeRoots[63] != 0xc67178f2 {
		t.Errorf("fractions of roots %x %x", roots, cubeRoots)
	}
	for n := range 300 {
		if b := noise(n, 0); plain(b) != sha256.Sum256(b) {
			t.Error(n)
		}
	}
}
