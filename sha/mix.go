package sha

import "math/bits"

// rounds is the number of words that a block is extended to, each of which takes part in one round.
const rounds = 64

// constants has the first 32 bits of the fractional parts of the cube roots of the first 64 prime numbers.
var constants = [rounds]uint32{
	0x428a2f98, 0x71374491, 0xb5c0fbcf, 0xe9b5dba5, 0x3956c25b, 0x59f111f1, 0x923f82a4, 0xab1c5ed5,
	0xd807aa98, 0x12835b01, 0x243185be, 0x550c7dc3, 0x72be5d74, 0x80deb1fe, 0x9bdc06a7, 0xc19bf174,
	0xe49b69c1, 0xefbe4786, 0x0fc19dc6, 0x240ca1cc, 0x2de92c6f, 0x4a7484aa, 0x5cb0a9dc, 0x76f988da,
	0x983e5152, 0xa831c66d, 0xb00327c8, 0xbf597fc7, 0xc6e00bf3, 0xd5a79147, 0x06ca6351, 0x14292967,
	0x27b70a85, 0x2e1b2138, 0x4d2c6dfc, 0x53380d13, 0x650a7354, 0x766a0abb, 0x81c2c92e, 0x92722c85,
	0xa2bfe8a1, 0xa81a664b, 0xc24b8b70, 0xc76c51a3, 0xd192e819, 0xd6990624, 0xf40e3585, 0x106aa070,
	0x19a4c116, 0x1e376c08, 0x2748774c, 0x34b0bcb5, 0x391c0cb3, 0x4ed8aa4a, 0x5b9cca4f, 0x682e6ff3,
	0x748f82ee, 0x78a5636f, 0x84c87814, 0x8cc70208, 0x90befffa, 0xa4506ceb, 0xbef9a3f7, 0xc67178f2,
}

// mix changes the state by a block.
func mix(state *[8]uint32, block *[blockSize]byte) {
	words := extend(block)
	mixed := *state
	for t := range rounds {
		round(&mixed, constants[t]+words[t])
	}
	for i := range state {
		state[i] += mixed[i]
	}
}

// extend returns the words of a block and those that follow from them.
func extend(block *[blockSize]byte) [rounds]uint32 {
	var w [rounds]uint32
	for i, b := range block {
		w[i/4] = w[i/4]<<8 | uint32(b)
	}
	for t := blockSize / 4; t < rounds; t++ {
		w[t] = scatter(w[t-2], 17, 19, 10) + w[t-7] + scatter(w[t-15], 7, 18, 3) + w[t-16]
	}
	return w
}

// round makes one round with the sum of a constant and a word of the block. The words a to h of the chapter are those of v, in this order: a copy moves each of them to the place of the next one, and then T1 is added to the new e.
func round(v *[8]uint32, added uint32) {
	t1 := v[7] + spread(v[4], 6, 11, 25) + choice(v[4], v[5], v[6]) + added
	t2 := spread(v[0], 2, 13, 22) + majority(v[0], v[1], v[2])
	copy(v[1:], v[:7])
	v[4] += t1
	v[0] = t1 + t2
}

// scatter joins x rotated right by two numbers of bits with x shifted right by a third one.
func scatter(x uint32, first, second, shift int) uint32 {
	return rotate(x, first) ^ rotate(x, second) ^ x>>shift
}

// spread joins x rotated right by three numbers of bits.
func spread(x uint32, first, second, third int) uint32 {
	return rotate(x, first) ^ rotate(x, second) ^ rotate(x, third)
}

// choice has the bits of f where e has ones, and those of g elsewhere.
func choice(e, f, g uint32) uint32 {
	return e&f ^ ^e&g
}

// majority has ones where at least two of the words have them.
func majority(a, b, c uint32) uint32 {
	return a&b ^ a&c ^ b&c
}

// rotate returns x rotated right by n bits.
func rotate(x uint32, n int) uint32 {
	return bits.RotateLeft32(x, -n)
}
