package join_test

import (
	"encoding/binary"
	"math/big"
	"math/rand"
	"slices"

	"sharecore/api"
)

// modulus returns the modulus of a field, as the document writes it.
func modulus(id int) *big.Int {
	digits := map[int]string{
		api.Field25519: "7fffffffffffffffffffffffffffffffffffffffffffffffffffffffffffffed",
		api.FieldP256:  "ffffffff00000000ffffffffffffffffbce6faada7179e84f3b9cac2fc632551",
	}
	p, _ := new(big.Int).SetString(digits[id], 16)
	return p
}

// elementOf returns the element that is x as a number.
func elementOf(x *big.Int) api.Element {
	b := x.FillBytes(make([]byte, 32))
	var e api.Element
	for i := range e {
		e[i] = binary.BigEndian.Uint64(b[8*(3-i):])
	}
	return e
}

// numberOf returns the number that an element is.
func numberOf(e api.Element) *big.Int {
	var b []byte
	for _, word := range slices.Backward(e[:]) {
		b = binary.BigEndian.AppendUint64(b, word)
	}
	return new(big.Int).SetBytes(b)
}

// formOf returns the element whose value is x modulo p, by the definition of
// Montgomery forms.
func formOf(id int, x *big.Int) api.Element {
	form := new(big.Int).Lsh(x, 256)
	return elementOf(form.Mod(form, modulus(id)))
}

// valueOf returns the value of an element.
func valueOf(id int, e api.Element) *big.Int {
	inverse := new(big.Int).ModInverse(new(big.Int).Lsh(big.NewInt(1), 256), modulus(id))
	x := new(big.Int).Mul(numberOf(e), inverse)
	return x.Mod(x, modulus(id))
}

// list returns the elements with small values.
func list(id int, l ...int64) []api.Element {
	var elements []api.Element
	for _, x := range l {
		elements = append(elements, formOf(id, big.NewInt(x)))
	}
	return elements
}

// chunkOf returns the element of a chunk, whose first byte is the least significant
// one.
func chunkOf(id int, chunk []byte) api.Element {
	b := slices.Clone(chunk)
	slices.Reverse(b)
	return formOf(id, new(big.Int).SetBytes(b))
}

// chunksOf returns the elements of the chunks of a secret.
func chunksOf(id int, secret []byte) []api.Element {
	var l []api.Element
	for chunk := range slices.Chunk(secret, 31) {
		l = append(l, chunkOf(id, chunk))
	}
	return l
}

// lengthOf returns the number of bytes that the chunk with the index k has.
func lengthOf(length, k int) int { return min(31, length-31*k) }

// countOf returns the number of chunks of a secret.
func countOf(length int) int { return (length + 30) / 31 }

// noise returns n bytes of a kind.
func noise(n int, kind int64) []byte {
	b := make([]byte, n)
	rand.New(rand.NewSource(kind)).Read(b)
	return b
}

// anyElement returns an element of a field, which is often the least or the greatest.
func anyElement(r *rand.Rand, id int) api.Element {
	switch r.Intn(5) {
	case 0:
		return api.Element{}
	case 1:
		return elementOf(new(big.Int).Sub(modulus(id), big.NewInt(1)))
	}
	return elementOf(new(big.Int).Rand(r, modulus(id)))
}

// header is what the shares of a secret have in common.
type header struct{ field, threshold, length int }

// share returns the share with a header and an index.
func (h header) share(index int, payload []api.Element) api.Share {
	return api.Share{Field: h.field, Threshold: h.threshold, Index: index, Length: h.length, Payload: payload}
}

// any returns shares with any elements.
func (h header) any(r *rand.Rand, xs []int) []api.Share {
	var l []api.Share
	for _, x := range xs {
		var payload []api.Element
		for range countOf(h.length) {
			payload = append(payload, anyElement(r, h.field))
		}
		l = append(l, h.share(x, payload))
	}
	return l
}

// of returns the shares of polynomials whose values at zero are given, and whose
// other coefficients are any elements.
func (h header) of(r *rand.Rand, xs []int, constants []api.Element) []api.Share {
	l := make([]api.Share, len(xs))
	for i, x := range xs {
		l[i] = h.share(x, nil)
	}
	for _, constant := range constants {
		c := []api.Element{constant}
		for range h.threshold - 1 {
			c = append(c, anyElement(r, h.field))
		}
		for i, x := range xs {
			l[i].Payload = append(l[i].Payload, eval(h.field, c, x))
		}
	}
	return l
}

// eval returns the value of a polynomial at an index.
func eval(id int, c []api.Element, x int) api.Element {
	// Numbers instead of values change nothing, as the value is a sum of multiples of
	// the coefficients.
	sum := new(big.Int)
	for _, e := range slices.Backward(c) {
		sum.Mul(sum, big.NewInt(int64(x)))
		sum.Add(sum, numberOf(e))
		sum.Mod(sum, modulus(id))
	}
	return elementOf(sum)
}

// factors returns the factors of the values at some points in the value at x, by the
// formula of Lagrange.
func factors(id int, xs []int, x int) []*big.Int {
	p := modulus(id)
	var l []*big.Int
	for i, xi := range xs {
		above, below := big.NewInt(1), big.NewInt(1)
		for k, xk := range xs {
			if k != i {
				above.Mul(above, big.NewInt(int64(x-xk)))
				above.Mod(above, p)
				below.Mul(below, big.NewInt(int64(xi-xk)))
				below.Mod(below, p)
			}
		}
		above.Mul(above, below.ModInverse(below, p))
		l = append(l, above.Mod(above, p))
	}
	return l
}

// valuesAt returns the values at x of the polynomials of all chunks of the first
// shares, as many as the threshold.
func valuesAt(l []api.Share, x int) []api.Element {
	id, used := l[0].Field, l[:l[0].Threshold]
	var xs []int
	for _, s := range used {
		xs = append(xs, s.Index)
	}
	weights := factors(id, xs, x)
	var values []api.Element
	for k := range l[0].Payload {
		sum := new(big.Int)
		for i, s := range used {
			sum.Add(sum, new(big.Int).Mul(weights[i], numberOf(s.Payload[k])))
		}
		values = append(values, elementOf(sum.Mod(sum, modulus(id))))
	}
	return values
}

// secretOf returns the secret with some elements, or api.ErrPadding.
func secretOf(id int, elements []api.Element, length int) ([]byte, api.Errno) {
	var secret []byte
	for k, e := range elements {
		n := lengthOf(length, k)
		x := valueOf(id, e)
		if x.BitLen() > 8*n {
			return nil, api.ErrPadding
		}
		chunk := x.FillBytes(make([]byte, n))
		slices.Reverse(chunk)
		secret = append(secret, chunk...)
	}
	return secret, api.OK
}

// upTo returns the indices from 1 to n.
func upTo(n int) []int {
	var xs []int
	for i := range n {
		xs = append(xs, i+1)
	}
	return xs
}

// indices returns n different indices in an arbitrary order.
func indices(r *rand.Rand, n int) []int {
	xs := r.Perm(api.MaxShares)[:n]
	for i := range xs {
		xs[i]++
	}
	return xs
}

// shuffled returns the same shares in an arbitrary order.
func shuffled(r *rand.Rand, l []api.Share) []api.Share {
	l = slices.Clone(l)
	r.Shuffle(len(l), func(i, k int) { l[i], l[k] = l[k], l[i] })
	return l
}

// clone returns a copy of shares that shares no memory with them.
func clone(l []api.Share) []api.Share {
	l = slices.Clone(l)
	for i := range l {
		l[i].Payload = slices.Clone(l[i].Payload)
	}
	return l
}

func sameShare(s, u api.Share) bool {
	same := s.Field == u.Field && s.Threshold == u.Threshold && s.Index == u.Index && s.Length == u.Length
	return same && slices.Equal(s.Payload, u.Payload)
}

func sameShares(l, m []api.Share) bool { return slices.EqualFunc(l, m, sameShare) }
