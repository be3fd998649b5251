package record_test

import (
	"bytes"
	"crypto/sha256"
	"encoding/binary"
	"iter"
	"math"
	"math/big"
	"math/rand"
	"slices"

	"sharecore/api"
)

// Both fields.
var ids = []int{api.Field25519, api.FieldP256}

// modulus returns the modulus of a field, as the document writes it.
func modulus(id int) *big.Int {
	digits := map[int]string{
		api.Field25519: "7fffffffffffffffffffffffffffffffffffffffffffffffffffffffffffffed",
		api.FieldP256:  "ffffffff00000000ffffffffffffffffbce6faada7179e84f3b9cac2fc632551",
	}
	p, _ := new(big.Int).SetString(digits[id], 16)
	return p
}

func power(n uint) *big.Int { return new(big.Int).Lsh(big.NewInt(1), n) }

// elementOf returns the element that is x as a number.
func elementOf(x *big.Int) api.Element {
	b := x.FillBytes(make([]byte, 32))
	var e api.Element
	for i := range e {
		e[i] = binary.BigEndian.Uint64(b[8*(3-i):])
	}
	return e
}

// formOf returns the element whose value is x, by the definition of Montgomery forms.
func formOf(id int, x *big.Int) api.Element {
	form := new(big.Int).Lsh(x, 256)
	return elementOf(form.Mod(form, modulus(id)))
}

// valueOf returns the value of an element, by the definition of Montgomery forms.
func valueOf(id int, e api.Element) *big.Int {
	x := new(big.Int)
	for _, word := range slices.Backward(e[:]) {
		x.Lsh(x, 64)
		x.Or(x, new(big.Int).SetUint64(word))
	}
	p := modulus(id)
	x.Mul(x, new(big.Int).ModInverse(power(256), p))
	return x.Mod(x, p)
}

// bytesOf returns the 32 bytes that represent a number, the least significant one
// first.
func bytesOf(x *big.Int) []byte {
	b := x.FillBytes(make([]byte, 32))
	slices.Reverse(b)
	return b
}

// numberOf returns the number that bytes represent.
func numberOf(b []byte) *big.Int {
	b = bytes.Clone(b)
	slices.Reverse(b)
	return new(big.Int).SetBytes(b)
}

// countOf returns the number of chunks of a secret.
func countOf(length int) int {
	n := 0
	for start := 0; start < length; start += 31 {
		n++
	}
	return n
}

// tagged returns the bytes and their tag.
func tagged(parts ...[]byte) []byte {
	b := slices.Concat(parts...)
	tag := sha256.Sum256(b)
	return append(b, tag[:]...)
}

// retagged returns the bytes, whose last 32 ones are replaced by the tag of the others.
func retagged(b []byte) []byte { return tagged(b[:len(b)-32]) }

// headOf returns the head of a record.
func headOf(id, threshold, index, length int) []byte {
	return []byte{1, byte(id), byte(threshold), byte(index), byte(length % 256), byte(length / 256)}
}

// recordOf returns the record of a correct share, by the list of the chapter.
func recordOf(s api.Share) []byte {
	parts := [][]byte{headOf(s.Field, s.Threshold, s.Index, s.Length)}
	for _, e := range s.Payload {
		parts = append(parts, bytesOf(valueOf(s.Field, e)))
	}
	return tagged(parts...)
}

// parse returns what Decode is to return.
func parse(b []byte) (api.Share, api.Errno) {
	if len(b) < 38 {
		return api.Share{}, api.ErrLength
	}
	for i, wrong := range []api.Errno{api.ErrVersion, api.ErrField, api.ErrThreshold, api.ErrIndex} {
		right := b[i] > 0
		switch i {
		case 0:
			right = b[i] == 1
		case 1:
			right = b[i] == 1 || b[i] == 2
		}
		if !right {
			return api.Share{}, wrong
		}
	}
	s := api.Share{Field: int(b[1]), Threshold: int(b[2]), Index: int(b[3]), Length: int(b[4]) + 256*int(b[5])}
	if len(b) != 38+32*countOf(s.Length) {
		return api.Share{}, api.ErrLength
	}
	for part := range slices.Chunk(b[6:len(b)-32], 32) {
		x := numberOf(part)
		if x.Cmp(modulus(s.Field)) >= 0 {
			return api.Share{}, api.ErrCanonical
		}
		s.Payload = append(s.Payload, formOf(s.Field, x))
	}
	if !bytes.Equal(b, retagged(b)) {
		return api.Share{}, api.ErrTag
	}
	return s, api.OK
}

// anyElement returns an element of a field, which, or whose value, is often the least
// or the greatest.
func anyElement(r *rand.Rand, id int) api.Element {
	greatest := new(big.Int).Sub(modulus(id), big.NewInt(1))
	switch r.Intn(6) {
	case 0:
		return api.Element{}
	case 1:
		return elementOf(greatest)
	case 2:
		return formOf(id, greatest)
	}
	return elementOf(new(big.Int).Rand(r, modulus(id)))
}

// shareOf returns a correct share with any elements.
func shareOf(r *rand.Rand, id, threshold, index, length int) api.Share {
	s := api.Share{Field: id, Threshold: threshold, Index: index, Length: length}
	for range countOf(length) {
		s.Payload = append(s.Payload, anyElement(r, id))
	}
	return s
}

// anyShare returns a correct share of a secret of at most 99 bytes.
func anyShare(r *rand.Rand) api.Share {
	return shareOf(r, 1+r.Intn(2), 1+r.Intn(255), 1+r.Intn(255), r.Intn(100))
}

func sameShare(s, u api.Share) bool {
	same := s.Field == u.Field && s.Threshold == u.Threshold && s.Index == u.Index && s.Length == u.Length
	return same && slices.Equal(s.Payload, u.Payload)
}

// lengths returns lengths of secrets.
func lengths() []int {
	return []int{0, 1, 2, 30, 31, 32, 40, 61, 62, 63, 92, 93, 94, 255, 256, 257, 511, 512, 1000, 65503, 65504, 65534, 65535}
}

// wrongFields returns numbers of no field, some of which have the lowest byte of one.
func wrongFields() []int {
	return []int{0, 3, -1, -2, 4, 255, 256, 257, 258, 65537, 1<<32 + 1, 1<<32 + 2, math.MinInt, math.MinInt + 1, math.MaxInt}
}

// wrongCounts returns numbers that are not from 1 to 255.
func wrongCounts() []int {
	return []int{0, 256, -1, -2, -255, -256, 257, 258, 65536, 65537, 1 << 32, 1<<32 + 1, math.MinInt, math.MinInt + 1, math.MaxInt}
}

// wrongLengths returns numbers of bytes that no secret has.
func wrongLengths() []int {
	return []int{-1, 65536, -2, -30, -31, -32, -65535, -65536, 65537, 65566, 65576, 131072, 1 << 32, 1<<32 + 40, math.MinInt, math.MinInt + 40, math.MaxInt, math.MaxInt - 31}
}

// A fault makes a part of something wrong, for which there is an error.
type fault[E any] struct {
	put  func(*E)
	want api.Errno
}

// allFaults yields right things with each fault of groups, alone and together with
// faults of later groups, and the error of the first one.
func allFaults[E any](r *rand.Rand, groups [][]fault[E], right func() E) iter.Seq2[E, api.Errno] {
	return func(yield func(E, api.Errno) bool) {
		for first, group := range groups {
			for _, f := range group {
				for round := range 6 {
					x := right()
					for _, later := range slices.Backward(groups[first+1:]) {
						if round > 0 && r.Intn(2) > 0 {
							anyOf(r, later).put(&x)
						}
					}
					f.put(&x)
					if !yield(x, f.want) {
						return
					}
				}
			}
		}
	}
}

func anyOf[E any](r *rand.Rand, l []E) E { return l[r.Intn(len(l))] }

// shareFaults returns ways to make each part of a share of 40 bytes wrong, in the
// order of the errors. The elements are changed before the length of the payload.
func shareFaults() [][]fault[api.Share] {
	groups := make([][]fault[api.Share], 6)
	add := func(i int, want api.Errno, put func(s *api.Share)) {
		groups[i] = append(groups[i], fault[api.Share]{put, want})
	}
	for _, n := range wrongFields() {
		add(0, api.ErrField, func(s *api.Share) { s.Field = n })
	}
	for _, n := range wrongCounts() {
		add(1, api.ErrThreshold, func(s *api.Share) { s.Threshold = n })
		add(2, api.ErrIndex, func(s *api.Share) { s.Index = n })
	}
	for _, n := range wrongLengths() {
		add(3, api.ErrSecret, func(s *api.Share) { s.Length = n })
	}
	for _, n := range []int{0, 1, 3, 4} {
		add(4, api.ErrLength, func(s *api.Share) { s.Payload = slices.Concat(s.Payload, s.Payload)[:n] })
	}
	for i := range 2 {
		add(5, api.ErrCanonical, func(s *api.Share) { s.Payload[i] = elementOf(modulus(api.FieldP256)) })
		add(5, api.ErrCanonical, func(s *api.Share) { s.Payload[i][3] = math.MaxUint64 })
	}
	return groups
}

// recordFaults returns ways to make each part of the record of a share of 40 bytes
// wrong, in the order of the errors. The bytes of elements are changed before the
// number of bytes.
func recordFaults() [][]fault[[]byte] {
	groups := make([][]fault[[]byte], 8)
	add := func(i int, want api.Errno, put func(b *[]byte)) {
		groups[i] = append(groups[i], fault[[]byte]{put, want})
	}
	for n := range 38 {
		add(0, api.ErrLength, func(b *[]byte) { *b = (*b)[:n] })
	}
	for n := range 256 {
		if n != 1 {
			add(1, api.ErrVersion, func(b *[]byte) { (*b)[0] = byte(n) })
		}
		if n != 1 && n != 2 {
			add(2, api.ErrField, func(b *[]byte) { (*b)[1] = byte(n) })
		}
	}
	add(3, api.ErrThreshold, func(b *[]byte) { (*b)[2] = 0 })
	add(4, api.ErrIndex, func(b *[]byte) { (*b)[3] = 0 })
	for n := 38; n < 200; n++ {
		if n != 102 {
			add(5, api.ErrLength, func(b *[]byte) { *b = slices.Concat(*b, *b)[:n] })
		}
	}
	for i := range 2 {
		greatest := bytes.Repeat([]byte{255}, 32)
		add(6, api.ErrCanonical, func(b *[]byte) { copy((*b)[6+32*i:], greatest) })
		add(6, api.ErrCanonical, func(b *[]byte) { copy((*b)[6+32*i:], bytesOf(modulus(api.FieldP256))) })
	}
	for i := range 32 {
		add(7, api.ErrTag, func(b *[]byte) { (*b)[70+i] ^= 1 << (i % 8) })
	}
	return groups
}
