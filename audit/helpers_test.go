package audit_test

import (
	"encoding/binary"
	"math"
	"math/big"
	"math/rand"
	"slices"

	"sharecore/api"
)

// Both fields.
var ids = []int{api.Field25519, api.FieldP256}

// modulus returns the modulus of a field, as the document writes it.
func modulus(id int) *big.Int {
	digits := map[int]string{
		api.Field25519: "7fffffffffffffffffffffffffffffffffffffffffffffffffffffffffffffed",
		api.FieldP256:  "ffffffff00000000ffffffffffffffffbce6faada7179e84f3b9cac2fc632551",
	}
	p, _ := new(big.Int).SetString(digits[id], 16)
	return p
}

// elementOf returns the element that is x as a number.
func elementOf(x *big.Int) api.Element {
	b := x.FillBytes(make([]byte, 32))
	var e api.Element
	for i := range e {
		e[i] = binary.BigEndian.Uint64(b[8*(3-i):])
	}
	return e
}

// numberOf returns the number that an element is.
func numberOf(e api.Element) *big.Int {
	var b []byte
	for _, word := range slices.Backward(e[:]) {
		b = binary.BigEndian.AppendUint64(b, word)
	}
	return new(big.Int).SetBytes(b)
}

// formOf returns the element whose value is x modulo p, by the definition of
// Montgomery forms.
func formOf(id int, x *big.Int) api.Element {
	form := new(big.Int).Lsh(x, 256)
	return elementOf(form.Mod(form, modulus(id)))
}

// list returns the elements with small values.
func list(id int, l ...int64) []api.Element {
	var elements []api.Element
	for _, x := range l {
		elements = append(elements, formOf(id, big.NewInt(x)))
	}
	return elements
}

// countOf returns the number of chunks of a secret.
func countOf(length int) int { return (length + 30) / 31 }

// noise returns n bytes of a kind.
func noise(n int, kind int64) []byte {
	b := make([]byte, n)
	rand.New(rand.NewSource(kind)).Read(b)
	return b
}

// anyElement returns an element of a field, which is often the least or the greatest.
func anyElement(r *rand.Rand, id int) api.Element {
	switch r.Intn(5) {
	case 0:
		return api.Element{}
	case 1:
		return elementOf(new(big.Int).Sub(modulus(id), big.NewInt(1)))
	}
	return elementOf(new(big.Int).Rand(r, modulus(id)))
}

// header is what the shares of a secret have in common.
type header struct{ field, threshold, length int }

// share returns the share with a header and an index.
func (h header) share(index int, payload []api.Element) api.Share {
	return api.Share{Field: h.field, Threshold: h.threshold, Index: index, Length: h.length, Payload: payload}
}

// any returns shares with any elements.
func (h header) any(r *rand.Rand, xs []int) []api.Share {
	var l []api.Share
	for _, x := range xs {
		var payload []api.Element
		for range countOf(h.length) {
			payload = append(payload, anyElement(r, h.field))
		}
		l = append(l, h.share(x, payload))
	}
	return l
}

// zeros returns shares whose elements are zero.
func (h header) zeros(xs []int) []api.Share {
	var l []api.Share
	for _, x := range xs {
		l = append(l, h.share(x, make([]api.Element, countOf(h.length))))
	}
	return l
}

// consistent returns consistent shares: those of polynomials with any coefficients.
func (h header) consistent(r *rand.Rand, xs []int) []api.Share {
	l := h.zeros(xs)
	for k := range countOf(h.length) {
		var c []api.Element
		for range h.threshold {
			c = append(c, anyElement(r, h.field))
		}
		for i, x := range xs {
			l[i].Payload[k] = eval(h.field, c, x)
		}
	}
	return l
}

// eval returns the value of a polynomial at an index.
func eval(id int, c []api.Element, x int) api.Element {
	// Numbers instead of values change nothing, as the value is a sum of multiples of
	// the coefficients.
	sum := new(big.Int)
	for _, e := range slices.Backward(c) {
		sum.Mul(sum, big.NewInt(int64(x)))
		sum.Add(sum, numberOf(e))
		sum.Mod(sum, modulus(id))
	}
	return elementOf(sum)
}

// plus returns the element that is the number of another one plus d modulo p, which
// is a different one if d is not a multiple of p.
func plus(id int, e api.Element, d *big.Int) api.Element {
	x := new(big.Int).Add(numberOf(e), d)
	return elementOf(x.Mod(x, modulus(id)))
}

// change changes the element that a share has for the chunk k.
func change(s api.Share, k int) {
	s.Payload[k] = plus(s.Field, s.Payload[k], big.NewInt(int64(s.Index)))
}

// factors returns the factors of the values at some points in the value at x, by the
// formula of Lagrange.
func factors(id int, xs []int, x int) []*big.Int {
	p := modulus(id)
	var l []*big.Int
	for i, xi := range xs {
		above, below := big.NewInt(1), big.NewInt(1)
		for k, xk := range xs {
			if k != i {
				above.Mul(above, big.NewInt(int64(x-xk)))
				above.Mod(above, p)
				below.Mul(below, big.NewInt(int64(xi-xk)))
				below.Mod(below, p)
			}
		}
		above.Mul(above, below.ModInverse(below, p))
		l = append(l, above.Mod(above, p))
	}
	return l
}

// valuesAt returns the values at x of the shortest polynomials of all chunks that have
// the values of some shares.
func valuesAt(l []api.Share, x int) []api.Element {
	id := l[0].Field
	var xs []int
	for _, s := range l {
		xs = append(xs, s.Index)
	}
	weights := factors(id, xs, x)
	var values []api.Element
	for k := range l[0].Payload {
		sum := new(big.Int)
		for i, s := range l {
			sum.Add(sum, new(big.Int).Mul(weights[i], numberOf(s.Payload[k])))
		}
		values = append(values, elementOf(sum.Mod(sum, modulus(id))))
	}
	return values
}

// answersOf returns whether shares are consistent for each chunk: whether the
// polynomial of the first shares, as many as the threshold, has the values of all
// further ones.
func answersOf(l []api.Share) []bool {
	answers := slices.Repeat([]bool{true}, len(l[0].Payload))
	n := l[0].Threshold
	for _, s := range l[n:] {
		for k, y := range valuesAt(l[:n], s.Index) {
			answers[k] = answers[k] && y == s.Payload[k]
		}
	}
	return answers
}

// suspectsOf returns the positions of the shares without which the other ones are
// consistent, or api.ErrFew.
func suspectsOf(l []api.Share) ([]int, api.Errno) {
	if len(l) == l[0].Threshold {
		return nil, api.ErrFew
	}
	var suspects []int
	for i := range l {
		if !slices.Contains(answersOf(slices.Delete(slices.Clone(l), i, i+1)), false) {
			suspects = append(suspects, i)
		}
	}
	return suspects, api.OK
}

// upTo returns the indices from 1 to n.
func upTo(n int) []int {
	var xs []int
	for i := range n {
		xs = append(xs, i+1)
	}
	return xs
}

// positions returns the positions in a list of n ones.
func positions(n int) []int {
	var l []int
	for i := range n {
		l = append(l, i)
	}
	return l
}

// indices returns n different indices in an arbitrary order.
func indices(r *rand.Rand, n int) []int {
	xs := r.Perm(api.MaxShares)[:n]
	for i := range xs {
		xs[i]++
	}
	return xs
}

// orders returns the shares in all orders.
func orders(l []api.Share) [][]api.Share {
	if len(l) == 0 {
		return [][]api.Share{nil}
	}
	var all [][]api.Share
	for _, order := range orders(l[1:]) {
		for i := range len(order) + 1 {
			all = append(all, slices.Insert(slices.Clone(order), i, l[0]))
		}
	}
	return all
}

// clone returns a copy of shares that shares no memory with them.
func clone(l []api.Share) []api.Share {
	l = slices.Clone(l)
	for i := range l {
		l[i].Payload = slices.Clone(l[i].Payload)
	}
	return l
}

func sameShare(s, u api.Share) bool {
	same := s.Field == u.Field && s.Threshold == u.Threshold && s.Index == u.Index && s.Length == u.Length
	return same && slices.Equal(s.Payload, u.Payload)
}

func sameShares(l, m []api.Share) bool { return slices.EqualFunc(l, m, sameShare) }

// wrongIndices returns numbers that are not from 1 to 255.
func wrongIndices() []int {
	return []int{0, 256, -1, -2, -255, -256, 257, 258, 511, 65536, 65537, 1 << 32, 1<<32 + 1, 1<<32 + 255, math.MinInt, math.MinInt + 1, math.MinInt + 3, math.MaxInt}
}

// wrongShares returns shares with an error, each made of a correct share of 40 bytes,
// with other errors in the parts that are mentioned later.
func wrongShares(s api.Share) map[api.Errno][]api.Share {
	tooGreat := elementOf(modulus(s.Field))
	greatest := api.Element{math.MaxUint64, math.MaxUint64, math.MaxUint64, math.MaxUint64}
	wrong := map[api.Errno][]api.Share{}
	add := func(e api.Errno, id, threshold, index, length int, payload ...api.Element) {
		wrong[e] = append(wrong[e], header{id, threshold, length}.share(index, payload))
	}
	for _, x := range wrongIndices() {
		add(api.ErrField, x, 0, 0, -1)
		add(api.ErrThreshold, s.Field, x, 0, 65536, greatest)
		add(api.ErrIndex, s.Field, s.Threshold, x, -1, greatest, greatest)
	}
	for _, length := range []int{-1, 65536, math.MinInt, math.MaxInt} {
		add(api.ErrSecret, s.Field, s.Threshold, s.Index, length, tooGreat)
	}
	for n := range 5 {
		if n != 2 {
			add(api.ErrLength, s.Field, s.Threshold, s.Index, 40, slices.Repeat([]api.Element{greatest}, n)...)
		}
	}
	for _, x := range []api.Element{tooGreat, greatest} {
		add(api.ErrCanonical, s.Field, s.Threshold, s.Index, 40, x, api.Element{})
		add(api.ErrCanonical, s.Field, s.Threshold, s.Index, 40, api.Element{}, x)
	}
	return wrong
}
