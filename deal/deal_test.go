package deal_test

import (
	"bytes"
	"encoding/binary"
	"math"
	"math/big"
	"math/rand"
	"slices"
	"sync"
	"testing"

	"sharecore/api"
	"sharecore/chunks"
	"sharecore/deal"
	"sharecore/field"
	"sharecore/lagrange"
	"sharecore/params"
	"sharecore/tape"
)

// modulus returns the modulus of a field, as the document writes it.
func modulus(id int) *big.Int {
	digits := map[int]string{
		api.Field25519: "7fffffffffffffffffffffffffffffffffffffffffffffffffffffffffffffed",
		api.FieldP256:  "ffffffff00000000ffffffffffffffffbce6faada7179e84f3b9cac2fc632551",
	}
	p, _ := new(big.Int).SetString(digits[id], 16)
	return p
}

// elementOf returns the element whose value is x modulo p, by the definition of
// Montgomery forms.
func elementOf(id int, x *big.Int) api.Element {
	form := new(big.Int).Lsh(x, 256)
	b := form.Mod(form, modulus(id)).FillBytes(make([]byte, 32))
	var e api.Element
	for i := range e {
		e[i] = binary.BigEndian.Uint64(b[8*(3-i):])
	}
	return e
}

// elementsOf returns the elements whose values are those of l modulo p.
func elementsOf(id int, l []*big.Int) []api.Element {
	var elements []api.Element
	for _, x := range l {
		elements = append(elements, elementOf(id, x))
	}
	return elements
}

// list returns the elements with small values.
func list(id int, l ...int64) []api.Element {
	var elements []api.Element
	for _, x := range l {
		elements = append(elements, elementOf(id, big.NewInt(x)))
	}
	return elements
}

// numberOf returns the number that bytes represent, the least significant one first.
func numberOf(b []byte) *big.Int {
	b = bytes.Clone(b)
	slices.Reverse(b)
	return new(big.Int).SetBytes(b)
}

// noise returns n bytes of a kind.
func noise(n int, kind int64) []byte {
	b := make([]byte, n)
	rand.New(rand.NewSource(kind)).Read(b)
	return b
}

// countOf returns the number of chunks of a secret.
func countOf(length int) int { return (length + 30) / 31 }

// neededBy returns the number of random bytes that a sharing needs.
func neededBy(p api.Params) int { return countOf(p.Length) * (p.Threshold - 1) * 64 }

// coefficients returns the coefficients of the polynomials of a secret.
func coefficients(p api.Params, secret, random []byte) [][]*big.Int {
	var polys [][]*big.Int
	for chunk := range slices.Chunk(secret, 31) {
		c := []*big.Int{numberOf(chunk)}
		for range p.Threshold - 1 {
			c = append(c, numberOf(random[:64]))
			random = random[64:]
		}
		polys = append(polys, c)
	}
	return polys
}

// elementLists returns the elements of each list of values.
func elementLists(id int, l [][]*big.Int) [][]api.Element {
	var lists [][]api.Element
	for _, values := range l {
		lists = append(lists, elementsOf(id, values))
	}
	return lists
}

// valueAt returns the sum of all coefficients times the powers of x.
func valueAt(id int, c []*big.Int, x int64) *big.Int {
	sum, power := new(big.Int), big.NewInt(1)
	for _, a := range c {
		sum.Add(sum, new(big.Int).Mul(a, power))
		power.Mul(power, big.NewInt(x))
		power.Mod(power, modulus(id))
	}
	return sum.Mod(sum, modulus(id))
}

// sharesOf returns the shares with the values of polynomials.
func sharesOf(p api.Params, polys [][]*big.Int) []api.Share {
	var l []api.Share
	for index := 1; index <= p.Shares; index++ {
		s := api.Share{Field: p.Field, Threshold: p.Threshold, Index: index, Length: p.Length}
		for _, c := range polys {
			s.Payload = append(s.Payload, elementOf(p.Field, valueAt(p.Field, c, int64(index))))
		}
		l = append(l, s)
	}
	return l
}

func sameLists(l, m [][]api.Element) bool {
	return slices.EqualFunc(l, m, func(a, b []api.Element) bool { return slices.Equal(a, b) })
}

func sameShares(l, m []api.Share) bool {
	return slices.EqualFunc(l, m, func(s, u api.Share) bool {
		same := s.Field == u.Field && s.Threshold == u.Threshold && s.Index == u.Index && s.Length == u.Length
		return same && slices.Equal(s.Payload, u.Payload)
	})
}

// cloneLists returns a copy of lists that shares no memory with them.
func cloneLists(l [][]api.Element) [][]api.Element {
	l = slices.Clone(l)
	for i := range l {
		l[i] = slices.Clone(l[i])
	}
	return l
}

// amid returns a copy of b that stands among other bytes.
func amid(b []byte) []byte {
	n := len(b)
	return slices.Concat([]byte{7, 255}, b, bytes.Repeat([]byte{255}, 200))[2 : 2+n]
}

// checkPolynomials checks one call of Polynomials.
func checkPolynomials(t *testing.T, p api.Params, secret, random []byte, want [][]api.Element, wantError api.Errno) {
	t.Helper()
	givenSecret, givenRandom := amid(secret), amid(random)
	got, e := deal.Polynomials(p, givenSecret, givenRandom)
	if !sameLists(got, want) || e != wantError {
		t.Errorf("Polynomials of %+v, %d secret and %d random bytes returns %d lists and %v instead of %d and %v, or other elements", p, len(secret), len(random), len(got), e, len(want), wantError)
	}
	if !bytes.Equal(givenSecret, secret) || !bytes.Equal(givenRandom, random) {
		t.Errorf("Polynomials of %+v has changed its arguments", p)
	}
}

// checkEvaluate checks one call of Evaluate, without a tape.
func checkEvaluate(t *testing.T, p api.Params, polys [][]api.Element, want []api.Share, wantError api.Errno) {
	t.Helper()
	before := cloneLists(polys)
	got, e := deal.Evaluate(nil, p, polys)
	if !sameShares(got, want) || e != wantError {
		t.Errorf("Evaluate of %+v and %d lists returns %d shares and %v instead of %d and %v, or other elements", p, len(polys), len(got), e, len(want), wantError)
	}
	if !sameLists(polys, before) {
		t.Errorf("Evaluate of %+v has changed its arguments", p)
	}
}

// checkDeal checks one call of Deal, without a tape.
func checkDeal(t *testing.T, p api.Params, secret, random []byte, want []api.Share, wantError api.Errno) {
	t.Helper()
	givenSecret, givenRandom := amid(secret), amid(random)
	got, e := deal.Deal(nil, p, givenSecret, givenRandom)
	if !sameShares(got, want) || e != wantError {
		t.Errorf("Deal of %+v, %d secret and %d random bytes returns %d shares and %v instead of %d and %v, or other elements", p, len(secret), len(random), len(got), e, len(want), wantError)
	}
	if !bytes.Equal(givenSecret, secret) || !bytes.Equal(givenRandom, random) {
		t.Errorf("Deal of %+v has changed its arguments", p)
	}
}

// checkSharing checks all functions for the secret of a sharing.
func checkSharing(t *testing.T, p api.Params, secret, random []byte) {
	t.Helper()
	values := coefficients(p, secret, random)
	polys, shares := elementLists(p.Field, values), sharesOf(p, values)
	checkPolynomials(t, p, secret, random, polys, api.OK)
	checkEvaluate(t, p, polys, shares, api.OK)
	checkDeal(t, p, secret, random, shares, api.OK)
}

// checkSplitError checks the error of Polynomials and Deal.
func checkSplitError(t *testing.T, p api.Params, secret, random []byte, want api.Errno) {
	t.Helper()
	checkPolynomials(t, p, secret, random, nil, want)
	checkDeal(t, p, secret, random, nil, want)
}

// wrongParams returns wrong parameters with their errors; parts that are mentioned
// later than the wrong one are right or wrong.
func wrongParams() map[api.Params]api.Errno {
	wrongFields := []int{0, 3, -1, 257, 1<<32 + 1, math.MinInt, math.MaxInt}
	wrongCounts := []int{0, -1, 256, 257, 1<<32 + 2, math.MinInt, math.MaxInt}
	wrongLengths := []int{-1, -31, 65536, 65566, 1<<32 + 40, math.MinInt, math.MaxInt}
	l := map[api.Params]api.Errno{}
	for _, length := range append(wrongLengths, 40) {
		for _, threshold := range append(wrongCounts, 4, 255, 2) {
			for _, shares := range append(wrongCounts, 3) {
				for _, id := range wrongFields {
					l[api.Params{Field: id, Threshold: threshold, Shares: shares, Length: length}] = api.ErrField
				}
				if shares != 3 {
					l[api.Params{Field: 1, Threshold: threshold, Shares: shares, Length: length}] = api.ErrCount
				}
			}
			if threshold != 2 {
				l[api.Params{Field: 2, Threshold: threshold, Shares: 3, Length: length}] = api.ErrThreshold
			}
		}
		if length != 40 {
			l[api.Params{Field: 1, Threshold: 2, Shares: 3, Length: length}] = api.ErrSecret
		}
	}
	return l
}

// The example of the chapter.
func TestExample(t *testing.T) {
	for _, id := range []int{1, 2} {
		p := api.Params{Field: id, Threshold: 2, Shares: 3, Length: 1}
		random := make([]byte, 64)
		random[0] = 3
		checkPolynomials(t, p, []byte{5}, random, [][]api.Element{list(id, 5, 3)}, api.OK)
		var want []api.Share
		for i, x := range list(id, 8, 11, 14) {
			want = append(want, api.Share{Field: id, Threshold: 2, Index: i + 1, Length: 1, Payload: []api.Element{x}})
		}
		checkDeal(t, p, []byte{5}, random, want, api.OK)
	}
}

// The examples 6 and 7 of the document.
func TestExamplesOfTheDocument(t *testing.T) {
	p := api.Params{Field: 1, Threshold: 2, Shares: 3, Length: 40}
	secret, random := noise(40, 1), noise(128, 2)
	checkSharing(t, p, secret, random)
	checkSplitError(t, p, secret, random[:127], api.ErrRandom)
	p.Threshold = 1
	l, _ := deal.Deal(nil, p, secret, nil)
	for _, s := range l {
		f, _ := field.Get(p.Field)
		if got, e := chunks.Join(f, s.Payload, 40); e != api.OK || !bytes.Equal(got, secret) {
			t.Errorf("the share with the index %d has the secret %x (%v)", s.Index, got, e)
		}
	}
}

// P16.1 to P16.3: lengths around each chunk, with thresholds and numbers of shares.
func TestSharings(t *testing.T) {
	for _, id := range []int{1, 2} {
		for _, length := range []int{0, 1, 2, 30, 31, 32, 61, 62, 63, 93, 94, 200} {
			for _, counts := range [][2]int{{1, 1}, {1, 2}, {1, 9}, {2, 2}, {2, 5}, {3, 3}, {3, 4}, {4, 10}, {16, 17}, {40, 40}} {
				p := api.Params{Field: id, Threshold: counts[0], Shares: counts[1], Length: length}
				checkSharing(t, p, noise(length, 3), noise(neededBy(p), 4))
			}
		}
	}
}

// P16.1 to P16.3: every length of secrets of some chunks.
func TestAllLengths(t *testing.T) {
	for length := range 130 {
		p := api.Params{Field: 1 + length%2, Threshold: 3, Shares: 4, Length: length}
		checkSharing(t, p, noise(length, 5), noise(neededBy(p), 6))
	}
}

// P16.1 to P16.3: small thresholds, and great ones around powers of two.
func TestThresholds(t *testing.T) {
	check := func(threshold int) {
		p := api.Params{Field: 1 + threshold%2, Threshold: threshold, Shares: max(threshold, 3), Length: 2}
		checkSharing(t, p, noise(2, 7), noise(neededBy(p), 8))
	}
	for threshold := 1; threshold <= 50; threshold++ {
		check(threshold)
	}
	for _, threshold := range []int{63, 64, 65, 100, 127, 128, 129, 192, 254} {
		check(threshold)
	}
}

// P16.1: every threshold.
func TestPolynomialsOfAllThresholds(t *testing.T) {
	for threshold := 1; threshold <= 255; threshold++ {
		p := api.Params{Field: 1 + threshold%2, Threshold: threshold, Shares: 255, Length: 33}
		secret, random := noise(33, 36), noise(neededBy(p), 37)
		checkPolynomials(t, p, secret, random, elementLists(p.Field, coefficients(p, secret, random)), api.OK)
	}
}

// P16.2 and P16.3: every number of shares.
func TestAllNumbersOfShares(t *testing.T) {
	for shares := 2; shares <= 255; shares++ {
		p := api.Params{Field: 1 + shares%2, Threshold: 2, Shares: shares, Length: 40}
		checkSharing(t, p, noise(40, 9), noise(neededBy(p), 10))
	}
}

// P16.1 to P16.3: the greatest numbers.
func TestGreatestSharings(t *testing.T) {
	for _, p := range []api.Params{
		{Field: 1, Threshold: 2, Shares: 3, Length: 65535}, {Field: 2, Threshold: 3, Shares: 3, Length: 65535},
		{Field: 2, Threshold: 1, Shares: 20, Length: 65534}, {Field: 1, Threshold: 255, Shares: 255, Length: 62},
		{Field: 2, Threshold: 255, Shares: 255, Length: 32},
	} {
		checkSharing(t, p, noise(p.Length, 11), noise(neededBy(p), 12))
	}
}

// P16.1 to P16.3: bytes of all ones, and all zeros.
func TestExtremeBytes(t *testing.T) {
	for _, id := range []int{1, 2} {
		for _, c := range [][2]byte{{0, 0}, {0, 255}, {255, 0}, {255, 255}} {
			p := api.Params{Field: id, Threshold: 4, Shares: 6, Length: 70}
			secret, random := bytes.Repeat(c[:1], 70), bytes.Repeat(c[1:], neededBy(p))
			checkSharing(t, p, secret, random)
		}
	}
}

// P16.1: the order of the random elements, by numbers that count them.
func TestOrderOfRandomElements(t *testing.T) {
	for _, id := range []int{1, 2} {
		p := api.Params{Field: id, Threshold: 4, Shares: 4, Length: 63}
		secret, random := make([]byte, 63), make([]byte, 64*9)
		secret[0], secret[31], secret[62] = 101, 102, 103
		for i := range 9 {
			random[64*i] = byte(i + 1)
		}
		want := [][]api.Element{list(id, 101, 1, 2, 3), list(id, 102, 4, 5, 6), list(id, 103, 7, 8, 9)}
		checkPolynomials(t, p, secret, random, want, api.OK)
	}
}

// P16.1: further random bytes change nothing.
func TestFurtherRandomBytes(t *testing.T) {
	for _, id := range []int{1, 2} {
		for _, threshold := range []int{1, 2, 3} {
			for _, length := range []int{0, 1, 40} {
				p := api.Params{Field: id, Threshold: threshold, Shares: 5, Length: length}
				for _, further := range []int{1, 63, 64, 65, 128, 1000} {
					checkSharing(t, p, noise(length, 13), noise(neededBy(p)+further, 14))
				}
			}
		}
	}
}

// P16.1: each number of random bytes that is too small, and numbers close to the
// needed one for greater sharings. The bytes beyond are not used, although they are
// there.
func TestTooFewRandomBytes(t *testing.T) {
	for _, id := range []int{1, 2} {
		p := api.Params{Field: id, Threshold: 3, Shares: 4, Length: 63}
		secret, random := noise(63, 15), noise(neededBy(p), 16)
		for n := range random {
			checkSplitError(t, p, secret, random[:n], api.ErrRandom)
		}
		if _, e := deal.Deal(nil, p, secret, random[:len(random)-1]); e != api.ErrRandom {
			t.Errorf("field %d: Deal has used bytes beyond a slice (%v)", id, e)
		}
	}
	for _, counts := range [][3]int{{2, 2, 65535}, {255, 255, 31}, {100, 100, 1000}} {
		p := api.Params{Field: 1, Threshold: counts[0], Shares: counts[1], Length: counts[2]}
		secret, random := noise(p.Length, 17), noise(neededBy(p), 18)
		for _, less := range []int{1, 2, 63, 64, 65, len(random) / 2, len(random)} {
			checkSplitError(t, p, secret, random[:len(random)-less], api.ErrRandom)
		}
	}
}

// P16.1: no random bytes are needed for the threshold 1, and for the empty secret.
func TestNoRandomBytes(t *testing.T) {
	for _, id := range []int{1, 2} {
		for _, length := range []int{0, 1, 31, 32, 1000} {
			p := api.Params{Field: id, Threshold: 1, Shares: 3, Length: length}
			checkSharing(t, p, noise(length, 19), nil)
		}
		for _, threshold := range []int{1, 2, 100, 255} {
			p := api.Params{Field: id, Threshold: threshold, Shares: 255}
			checkSharing(t, p, nil, nil)
			checkSharing(t, p, []byte{}, []byte{})
		}
	}
}

// P16.1: secrets of each other length, which stand before too few random bytes.
func TestSecretLengths(t *testing.T) {
	secret, random := noise(100, 20), noise(64*100, 21)
	for length := range 70 {
		p := api.Params{Field: 1 + length%2, Threshold: 2, Shares: 2, Length: length}
		for n := range len(secret) + 1 {
			if n == length {
				continue
			}
			checkSplitError(t, p, secret[:n], random, api.ErrLength)
			checkSplitError(t, p, secret[:n], nil, api.ErrLength)
		}
	}
	for _, n := range []int{0, 65534, 65536, 65566, 131071} {
		p := api.Params{Field: 2, Threshold: 2, Shares: 2, Length: 65535}
		checkSplitError(t, p, make([]byte, n), random, api.ErrLength)
	}
}

// P16.1 to P16.3: wrong parameters, before all other errors.
func TestWrongParams(t *testing.T) {
	secret, random := noise(40, 22), noise(128, 23)
	polys := [][]api.Element{list(1, 5, 3), list(1, 6, 4)}
	for p, want := range wrongParams() {
		for _, n := range []int{0, 39, 40} {
			checkSplitError(t, p, secret[:n], random, want)
			checkSplitError(t, p, secret[:n], nil, want)
		}
		for n := range 3 {
			checkEvaluate(t, p, polys[:n], nil, want)
		}
		checkEvaluate(t, p, [][]api.Element{polys[0], nil}, nil, want)
	}
	tooLong := api.Params{Field: 1, Threshold: 1, Shares: 1, Length: 65536}
	checkSplitError(t, tooLong, make([]byte, 65536), nil, api.ErrSecret)
	checkEvaluate(t, tooLong, make([][]api.Element, 2115), nil, api.ErrSecret)
}

// P16.2: polynomials that are not those of secrets, at all indices.
func TestEvaluate(t *testing.T) {
	r := rand.New(rand.NewSource(24))
	for _, id := range []int{1, 2} {
		for _, threshold := range []int{1, 2, 3, 9, 64} {
			p := api.Params{Field: id, Threshold: threshold, Shares: 255, Length: 100}
			values := make([][]*big.Int, 4)
			for k := range values {
				for range threshold {
					values[k] = append(values[k], anyValue(r, id))
				}
			}
			checkEvaluate(t, p, elementLists(id, values), sharesOf(p, values), api.OK)
		}
	}
}

// anyValue returns a value of a field, which is often the least or the greatest.
func anyValue(r *rand.Rand, id int) *big.Int {
	switch r.Intn(4) {
	case 0:
		return new(big.Int)
	case 1:
		return new(big.Int).Sub(modulus(id), big.NewInt(1))
	}
	return new(big.Int).Rand(r, modulus(id))
}

// P16.2: each single coefficient of each polynomial.
func TestSingleCoefficients(t *testing.T) {
	for _, id := range []int{1, 2} {
		p := api.Params{Field: id, Threshold: 5, Shares: 6, Length: 80}
		for k := range 3 {
			for i := range 5 {
				values := make([][]*big.Int, 3)
				for at := range values {
					values[at] = slices.Repeat([]*big.Int{new(big.Int)}, 5)
				}
				values[k][i] = big.NewInt(7)
				checkEvaluate(t, p, elementLists(id, values), sharesOf(p, values), api.OK)
			}
		}
	}
}

// P16.2: the polynomials may share their memory.
func TestSamePolynomials(t *testing.T) {
	for _, id := range []int{1, 2} {
		p := api.Params{Field: id, Threshold: 3, Shares: 5, Length: 93}
		c := []*big.Int{big.NewInt(11), big.NewInt(12), big.NewInt(13)}
		one := elementsOf(id, c)
		checkEvaluate(t, p, [][]api.Element{one, one, one}, sharesOf(p, [][]*big.Int{c, c, c}), api.OK)
	}
}

// P16.2: any other number of polynomials, which have the right lengths.
func TestNumbersOfPolynomials(t *testing.T) {
	all := make([][]api.Element, 2120)
	for k := range all {
		all[k] = make([]api.Element, 2)
	}
	for _, id := range []int{1, 2} {
		for _, length := range []int{0, 1, 31, 32, 62, 63, 100, 65535} {
			p := api.Params{Field: id, Threshold: 2, Shares: 2, Length: length}
			right := countOf(length)
			for _, n := range []int{0, 1, 2, 3, 4, 5, right - 1, right + 1, right + 2, len(all)} {
				if n >= 0 && n != right {
					checkEvaluate(t, p, all[:n], nil, api.ErrLength)
				}
			}
			if l, e := deal.Evaluate(nil, p, all[:right]); e != api.OK || len(l) != 2 {
				t.Errorf("Evaluate of %+v returns %d shares and %v", p, len(l), e)
			}
		}
	}
}

// P16.2: another number of coefficients in each polynomial; those that are missing
// follow the slice in its memory.
func TestNumbersOfCoefficients(t *testing.T) {
	for _, id := range []int{1, 2} {
		for _, threshold := range []int{1, 2, 3, 255} {
			p := api.Params{Field: id, Threshold: threshold, Shares: 255, Length: 100}
			for k := range 4 {
				for _, n := range []int{0, 1, threshold - 1, threshold + 1, 256, 300} {
					if n == threshold {
						continue
					}
					polys := make([][]api.Element, 4)
					for at := range polys {
						polys[at] = make([]api.Element, threshold)
					}
					polys[k] = make([]api.Element, 300)[:n]
					checkEvaluate(t, p, polys, nil, api.ErrLength)
				}
			}
		}
	}
}

// The lists of Polynomials share no memory with anything, also beyond their lengths.
func TestPolynomialsAreNewMemory(t *testing.T) {
	for _, id := range []int{1, 2} {
		for _, threshold := range []int{1, 2, 3, 5} {
			p := api.Params{Field: id, Threshold: threshold, Shares: 5, Length: 93}
			secret, random := noise(93, 25), noise(neededBy(p), 26)
			want := elementLists(id, coefficients(p, secret, random))
			got, _ := deal.Polynomials(p, secret, random)
			other, _ := deal.Polynomials(p, secret, random)
			clear(secret)
			clear(random)
			for k := range want {
				if !slices.Equal(got[k], want[k]) {
					t.Errorf("field %d, threshold %d: the list %d shares memory with others or with the arguments", id, threshold, k)
				}
				clear(got[k][:cap(got[k])])
			}
			clear(got[:cap(got)])
			if !sameLists(other, want) {
				t.Errorf("field %d, threshold %d: results share memory", id, threshold)
			}
		}
	}
}

// The shares of Evaluate and Deal share no memory with anything, also beyond the
// lengths of their payloads.
func TestSharesAreNewMemory(t *testing.T) {
	for _, id := range []int{1, 2} {
		for _, threshold := range []int{1, 2, 3} {
			p := api.Params{Field: id, Threshold: threshold, Shares: 5, Length: 93}
			secret, random := noise(93, 27), noise(neededBy(p), 28)
			values := coefficients(p, secret, random)
			polys, want := elementLists(id, values), sharesOf(p, values)
			evaluated, _ := deal.Evaluate(nil, p, polys)
			again, _ := deal.Evaluate(nil, p, polys)
			dealt, _ := deal.Deal(nil, p, secret, random)
			dealtAgain, _ := deal.Deal(nil, p, secret, random)
			for _, c := range polys {
				clear(c)
			}
			clear(secret)
			clear(random)
			for _, l := range [][]api.Share{evaluated, dealt} {
				checkAndClear(t, l, want)
			}
			if !sameShares(again, want) || !sameShares(dealtAgain, want) {
				t.Errorf("field %d, threshold %d: results share memory", id, threshold)
			}
		}
	}
}

// checkAndClear checks each share of l and overwrites its payload.
func checkAndClear(t *testing.T, l, want []api.Share) {
	t.Helper()
	for i := range want {
		if !sameShares(l[i:i+1], want[i:i+1]) {
			t.Errorf("field %d: the share %d shares memory with others or with the arguments", want[i].Field, i)
		}
		clear(l[i].Payload[:cap(l[i].Payload)])
	}
	clear(l[:cap(l)])
}

// P16.5: the shares are accepted, and equal arguments yield equal shares.
func TestSharesAreAccepted(t *testing.T) {
	for _, id := range []int{1, 2} {
		for _, length := range []int{0, 1, 31, 32, 300} {
			for _, counts := range [][2]int{{1, 1}, {1, 255}, {2, 2}, {2, 9}, {7, 8}, {255, 255}} {
				p := api.Params{Field: id, Threshold: counts[0], Shares: counts[1], Length: length}
				secret, random := noise(length, 29), noise(neededBy(p), 30)
				l, e := deal.Deal(nil, p, secret, random)
				if e != api.OK || params.CheckShares(l) != api.OK {
					t.Errorf("the shares of %+v (%v) are not accepted: %v", p, e, params.CheckShares(l))
				}
				m, _ := deal.Deal(tape.New(), p, bytes.Clone(secret), append(bytes.Clone(random), 1))
				if !sameShares(l, m) {
					t.Errorf("the shares of %+v differ from call to call", p)
				}
			}
		}
	}
}

// P16.5: with the threshold 1, each payload has the elements of the chunks, whatever
// the random bytes are.
func TestThresholdOne(t *testing.T) {
	for _, id := range []int{1, 2} {
		f, _ := field.Get(id)
		for _, length := range []int{0, 1, 31, 32, 1000} {
			secret := noise(length, 31)
			want, _ := chunks.Split(f, secret)
			p := api.Params{Field: id, Threshold: 1, Shares: 255, Length: length}
			l, e := deal.Deal(nil, p, secret, noise(200, 32))
			if e != api.OK || len(l) != 255 {
				t.Errorf("Deal of %+v returns %d shares and %v", p, len(l), e)
			}
			for _, s := range l {
				if !slices.Equal(s.Payload, want) {
					t.Errorf("the share %d of %+v does not have the elements of the secret", s.Index, p)
				}
			}
		}
	}
}

// P4: the values of as many shares as the threshold yield the secret.
func TestSecretOfShares(t *testing.T) {
	r := rand.New(rand.NewSource(33))
	for _, id := range []int{1, 2} {
		f, _ := field.Get(id)
		for _, counts := range [][2]int{{1, 3}, {2, 3}, {5, 9}, {20, 255}} {
			p := api.Params{Field: id, Threshold: counts[0], Shares: counts[1], Length: 100}
			secret := noise(100, r.Int63())
			l, _ := deal.Deal(nil, p, secret, noise(neededBy(p), r.Int63()))
			r.Shuffle(len(l), func(i, k int) { l[i], l[k] = l[k], l[i] })
			l = l[:p.Threshold]
			zero, _ := lagrange.Zero(nil, f, params.Indices(l))
			var elements []api.Element
			for k := range countOf(100) {
				x, _ := lagrange.Dot(nil, f, zero, params.Column(l, k))
				elements = append(elements, x)
			}
			if got, e := chunks.Join(f, elements, 100); e != api.OK || !bytes.Equal(got, secret) {
				t.Errorf("the shares of %+v yield %x (%v) instead of %x", p, got, e, secret)
			}
		}
	}
}

// Elements for which nothing is specified do not make Evaluate panic.
func TestOtherElements(t *testing.T) {
	greatest := api.Element{math.MaxUint64, math.MaxUint64, math.MaxUint64, math.MaxUint64}
	for _, id := range []int{1, 2} {
		p := api.Params{Field: id, Threshold: 3, Shares: 255, Length: 1}
		if l, e := deal.Evaluate(nil, p, [][]api.Element{{greatest, greatest, greatest}}); e != api.OK || len(l) != 255 {
			t.Errorf("field %d: Evaluate returns %d shares and %v", id, len(l), e)
		}
	}
}

// The functions may be called concurrently, for the same arguments too.
func TestConcurrentCalls(t *testing.T) {
	var calls sync.WaitGroup
	for _, id := range []int{1, 2} {
		p := api.Params{Field: id, Threshold: 3, Shares: 6, Length: 100}
		secret, random := noise(100, 34), noise(neededBy(p), 35)
		for range 8 {
			calls.Go(func() {
				for range 5 {
					checkSharing(t, p, secret, random)
					checkSplitError(t, p, secret[1:], random, api.ErrLength)
				}
			})
		}
	}
	calls.Wait()
}
