package join_test

import (
	"bytes"
	"math"
	"math/big"
	"math/rand"
	"slices"
	"sync"
	"testing"

	"sharecore/api"
	"sharecore/deal"
	"sharecore/join"
	"sharecore/tape"
)

// amid returns shares that stand among others, which are of no secret.
func amid(l []api.Share) []api.Share {
	other := header{9, -1, 70}.share(0, nil)
	return slices.Concat([]api.Share{other}, l, []api.Share{other, other})[1 : 1+len(l)]
}

// checkKept checks that a call has not changed its shares and what stands beside
// their payloads.
func checkKept(t *testing.T, name string, l []api.Share, call func(l []api.Share)) {
	t.Helper()
	given := amid(clone(l))
	before := clone(given[:len(l)+2])
	call(given)
	if !sameShares(given[:len(l)+2], before) {
		t.Errorf("%s has changed its arguments", name)
	}
}

// checkValues checks one call of Values, without a tape.
func checkValues(t *testing.T, l []api.Share, want []api.Element, wantError api.Errno) {
	t.Helper()
	checkKept(t, "Values", l, func(l []api.Share) {
		t.Helper()
		got, e := join.Values(nil, l)
		if !slices.Equal(got, want) || e != wantError {
			t.Errorf("Values of %d shares returns %d elements and %v instead of %d and %v, or other elements", len(l), len(got), e, len(want), wantError)
		}
	})
}

// checkCombine checks one call of Combine, without a tape.
func checkCombine(t *testing.T, l []api.Share, want []byte, wantError api.Errno) {
	t.Helper()
	checkKept(t, "Combine", l, func(l []api.Share) {
		t.Helper()
		got, e := join.Combine(nil, l)
		if !bytes.Equal(got, want) || e != wantError {
			t.Errorf("Combine of %d shares returns %d bytes and %v instead of %d and %v, or other bytes", len(l), len(got), e, len(want), wantError)
		}
	})
}

// checkAt checks one call of At, without a tape.
func checkAt(t *testing.T, l []api.Share, index int, want api.Share, wantError api.Errno) {
	t.Helper()
	checkKept(t, "At", l, func(l []api.Share) {
		t.Helper()
		got, e := join.At(nil, l, index)
		if !sameShare(got, want) || e != wantError {
			t.Errorf("At of %d shares and the index %d returns the index %d, %d elements and %v instead of %d, %d and %v, or others", len(l), index, got.Index, len(got.Payload), e, want.Index, len(want.Payload), wantError)
		}
	})
}

// checkSecret checks Values and Combine of shares without errors.
func checkSecret(t *testing.T, l []api.Share) {
	t.Helper()
	values := valuesAt(l, 0)
	checkValues(t, l, values, api.OK)
	secret, e := secretOf(l[0].Field, values, l[0].Length)
	checkCombine(t, l, secret, e)
}

// checkIndex checks At of shares without errors.
func checkIndex(t *testing.T, l []api.Share, index int) {
	t.Helper()
	s := l[0]
	s.Index, s.Payload = index, valuesAt(l, index)
	checkAt(t, l, index, s, api.OK)
}

// checkError checks that all functions return an error of a list, also for a wrong
// index.
func checkError(t *testing.T, l []api.Share, want api.Errno) {
	t.Helper()
	checkValues(t, l, nil, want)
	checkCombine(t, l, nil, want)
	for _, index := range []int{3, 0, 256} {
		checkAt(t, l, index, api.Share{}, want)
	}
}

// Both fields.
var ids = []int{api.Field25519, api.FieldP256}

// wrongIndices returns numbers that are not from 1 to 255.
func wrongIndices() []int {
	return []int{0, 256, -1, -2, -255, -256, 257, 258, 511, 65536, 65537, 1 << 32, 1<<32 + 1, 1<<32 + 255, math.MinInt, math.MinInt + 1, math.MinInt + 3, math.MaxInt}
}

// The examples of the chapter.
func TestExamples(t *testing.T) {
	for _, id := range ids {
		h := header{id, 2, 1}
		l := []api.Share{h.share(1, list(id, 8)), h.share(2, list(id, 11))}
		checkValues(t, l, list(id, 5), api.OK)
		checkCombine(t, l, []byte{5}, api.OK)
		checkAt(t, l, 3, h.share(3, list(id, 14)), api.OK)
	}
}

// The example 3 of the document: for the points 1, 2 and 3, the value at zero is
// 3 y(1) - 3 y(2) + y(3).
func TestExampleOfTheDocument(t *testing.T) {
	for _, id := range ids {
		h := header{id, 3, 40}
		l := []api.Share{h.share(1, list(id, 9, 100)), h.share(2, list(id, 20, 90)), h.share(3, list(id, 40, 7))}
		checkValues(t, l, list(id, 27-60+40, 300-270+7), api.OK)
		checkCombine(t, l, slices.Concat([]byte{7}, make([]byte, 30), []byte{37}, make([]byte, 8)), api.OK)
	}
}

// P17.1 to P17.3: any elements, thresholds, indices and numbers of chunks. The shares
// beyond the threshold are on no polynomials of the others.
func TestAnyElements(t *testing.T) {
	r := rand.New(rand.NewSource(1))
	for _, id := range ids {
		for _, threshold := range []int{1, 2, 3, 4, 7, 20} {
			for _, length := range []int{0, 1, 30, 31, 32, 62, 63, 100} {
				h := header{id, threshold, length}
				for _, further := range []int{0, 1, 2, 30} {
					l := h.any(r, indices(r, threshold+further))
					checkSecret(t, l)
					checkIndex(t, l, 1+r.Intn(255))
				}
			}
		}
	}
}

// P17.1 to P17.3: small thresholds, and great ones around powers of two.
func TestThresholds(t *testing.T) {
	r := rand.New(rand.NewSource(2))
	check := func(threshold int) {
		l := header{1 + threshold%2, threshold, 1}.any(r, indices(r, threshold+threshold%3))
		checkSecret(t, l)
		checkIndex(t, l, 1+r.Intn(255))
	}
	for threshold := 1; threshold <= 50; threshold++ {
		check(threshold)
	}
	for _, threshold := range []int{63, 64, 65, 100, 127, 128, 129, 192, 253} {
		check(threshold)
	}
}

// P17.1 to P17.3: the greatest threshold, for indices in ascending, descending and
// any order.
func TestGreatestThreshold(t *testing.T) {
	r := rand.New(rand.NewSource(3))
	for _, id := range ids {
		h := header{id, 255, 62}
		down := upTo(255)
		slices.Reverse(down)
		for _, xs := range [][]int{upTo(255), down, indices(r, 255)} {
			checkSecret(t, h.any(r, xs))
			secret := noise(62, 4)
			l := h.of(r, xs, chunksOf(id, secret))
			checkCombine(t, l, secret, api.OK)
			checkAt(t, l, 77, l[slices.Index(xs, 77)], api.OK)
		}
	}
}

// P17.1: elements at the borders of the field, in all positions.
func TestBorders(t *testing.T) {
	for _, id := range ids {
		var borders []api.Element
		for _, d := range []int64{1, 2} {
			borders = append(borders, elementOf(big.NewInt(d-1)), elementOf(new(big.Int).Sub(modulus(id), big.NewInt(d))))
			borders = append(borders, list(id, d, -d)...)
		}
		h := header{id, 2, 62}
		for _, a := range borders {
			for _, b := range borders {
				l := []api.Share{h.share(255, []api.Element{a, b}), h.share(1, []api.Element{b, b})}
				checkSecret(t, l)
				for _, index := range []int{1, 2, 254, 255} {
					checkIndex(t, l, index)
				}
			}
		}
	}
}

// P17.1: each single element of the payloads, by its chunk and its share.
func TestSingleElements(t *testing.T) {
	for _, id := range ids {
		h := header{id, 4, 93}
		for k := range 3 {
			for i := range 6 {
				var l []api.Share
				for _, x := range []int{200, 3, 1, 64, 9, 255} {
					l = append(l, h.share(x, make([]api.Element, 3)))
				}
				l[i].Payload[k] = list(id, 7)[0]
				checkSecret(t, l)
				checkIndex(t, l, 3)
				checkIndex(t, l, 77)
			}
		}
	}
}

// P17.1 to P17.3: with the threshold 1, the polynomials are constants.
func TestThresholdOne(t *testing.T) {
	r := rand.New(rand.NewSource(5))
	for _, id := range ids {
		for _, length := range []int{0, 1, 31, 32, 1000} {
			h := header{id, 1, length}
			l := h.any(r, []int{9, 4, 255})
			checkValues(t, l, l[0].Payload, api.OK)
			checkAt(t, l, 4, h.share(4, l[0].Payload), api.OK)
			secret := noise(length, 6)
			l[0].Payload = chunksOf(id, secret)
			checkCombine(t, l, secret, api.OK)
		}
	}
}

// P17.1 to P17.3: the empty secret has no chunks.
func TestEmptySecret(t *testing.T) {
	for _, id := range ids {
		for _, threshold := range []int{1, 2, 3, 255} {
			h := header{id, threshold, 0}
			var l []api.Share
			for _, x := range upTo(255) {
				l = append(l, h.share(x, nil))
			}
			for _, n := range []int{threshold, 255} {
				checkValues(t, l[:n], nil, api.OK)
				checkCombine(t, l[:n], nil, api.OK)
				checkAt(t, l[:n], 9, h.share(9, nil), api.OK)
			}
		}
	}
}

// P17.1 to P17.3: the longest secrets.
func TestLongestSecrets(t *testing.T) {
	r := rand.New(rand.NewSource(7))
	for _, h := range []header{{1, 2, 65535}, {2, 3, 65535}, {2, 1, 65534}, {1, 3, 65504}, {1, 2, 65505}} {
		secret := noise(h.length, 8)
		l := h.of(r, []int{201, 3, 77, 9}, chunksOf(h.field, secret))
		checkCombine(t, l, secret, api.OK)
		checkValues(t, l, chunksOf(h.field, secret), api.OK)
		checkAt(t, l, 9, l[3], api.OK)
	}
}

// P17.2: each length of a secret of some chunks, with all bytes 255, all bytes 0,
// and others.
func TestLengths(t *testing.T) {
	r := rand.New(rand.NewSource(9))
	for _, id := range ids {
		for length := range 130 {
			h := header{id, 3, length}
			for _, secret := range [][]byte{make([]byte, length), bytes.Repeat([]byte{255}, length), noise(length, 10)} {
				l := h.of(r, []int{5, 255, 2}, chunksOf(id, secret))
				checkCombine(t, l, secret, api.OK)
			}
		}
	}
}

// P17.2: each bit of the padding of each chunk. Values has no error for it, and
// neither has At.
func TestPaddings(t *testing.T) {
	r := rand.New(rand.NewSource(11))
	for _, id := range ids {
		for _, length := range []int{1, 30, 31, 32, 63, 70} {
			h := header{id, 2, length}
			for k := range countOf(length) {
				for bit := 8 * lengthOf(length, k); bit < 255; bit++ {
					constants := chunksOf(id, noise(length, 12))
					x := valueOf(id, constants[k])
					constants[k] = formOf(id, x.Mod(x.SetBit(x, bit, 1), modulus(id)))
					l := h.of(r, []int{4, 9, 2}, constants)
					checkValues(t, l, constants, api.OK)
					checkCombine(t, l, nil, api.ErrPadding)
					checkAt(t, l, 2, l[2], api.OK)
				}
			}
		}
	}
}

// P17.2: the greatest values.
func TestGreatestValues(t *testing.T) {
	r := rand.New(rand.NewSource(13))
	for _, id := range ids {
		h := header{id, 3, 62}
		for _, constants := range [][]api.Element{list(id, -1, 0), list(id, 0, -1), list(id, -1, -1)} {
			l := h.of(r, []int{1, 2, 3}, constants)
			checkValues(t, l, constants, api.OK)
			checkCombine(t, l, nil, api.ErrPadding)
		}
	}
}

// P17.3: all indices, those of used, unused and no shares. An unused share that is
// on no polynomials of the others is not what At returns for its index.
func TestAllIndices(t *testing.T) {
	r := rand.New(rand.NewSource(14))
	for _, id := range ids {
		h := header{id, 5, 100}
		xs := []int{7, 255, 1, 30, 200, 8, 254}
		l := h.any(r, xs)
		consistent := h.of(r, xs, chunksOf(id, noise(100, 15)))
		for index := 1; index <= 255; index++ {
			checkIndex(t, l, index)
			checkIndex(t, consistent, index)
		}
		for i, s := range l[:5] {
			checkAt(t, l, s.Index, s, api.OK)
			checkAt(t, consistent, s.Index, consistent[i], api.OK)
		}
		for _, s := range consistent[5:] {
			checkAt(t, consistent, s.Index, s, api.OK)
		}
	}
}

// P17.3: wrong indices.
func TestWrongIndices(t *testing.T) {
	r := rand.New(rand.NewSource(16))
	for _, id := range ids {
		for _, h := range []header{{id, 1, 0}, {id, 1, 40}, {id, 3, 0}, {id, 3, 40}, {id, 3, 1}} {
			l := h.any(r, []int{3, 1, 2, 255})
			for _, index := range wrongIndices() {
				checkAt(t, l, index, api.Share{}, api.ErrIndex)
			}
			for _, index := range []int{1, 2, 254, 255} {
				checkIndex(t, l, index)
			}
		}
	}
}

// P17.1 to P17.3: the first shares are used, in each order of five shares.
func TestFirstShares(t *testing.T) {
	r := rand.New(rand.NewSource(17))
	for _, id := range ids {
		for threshold := 1; threshold <= 5; threshold++ {
			all := header{id, threshold, 33}.any(r, []int{2, 3, 5, 250, 9})
			for _, l := range orders(all) {
				checkSecret(t, l)
			}
			for range 10 {
				checkIndex(t, shuffled(r, all), 1+r.Intn(255))
			}
		}
	}
}

// orders returns the shares in all orders.
func orders(l []api.Share) [][]api.Share {
	if len(l) == 0 {
		return [][]api.Share{nil}
	}
	var all [][]api.Share
	for _, order := range orders(l[1:]) {
		for i := range len(order) + 1 {
			all = append(all, slices.Insert(slices.Clone(order), i, l[0]))
		}
	}
	return all
}

// The errors of lists: too few shares, although there are more beyond the list.
func TestFewShares(t *testing.T) {
	r := rand.New(rand.NewSource(18))
	checkError(t, nil, api.ErrFew)
	for _, id := range ids {
		for _, threshold := range []int{1, 2, 3, 9, 255} {
			for _, length := range []int{0, 1, 40} {
				l := header{id, threshold, length}.any(r, indices(r, 255))
				for n := range threshold {
					checkError(t, l[:n], api.ErrFew)
				}
				v, e := join.Values(nil, l[:threshold-1])
				b, g := join.Combine(nil, l[:threshold-1])
				s, i := join.At(nil, l[:threshold-1], 1)
				if len(v)+len(b)+len(s.Payload) > 0 || e != api.ErrFew || g != e || i != e {
					t.Errorf("the threshold %d: the functions use shares beyond a slice: %v, %v and %v", threshold, e, g, i)
				}
			}
		}
	}
}

// wrongShares returns shares with an error, each made of a correct share of 40 bytes,
// with other errors in the parts that are mentioned later.
func wrongShares(s api.Share) map[api.Errno][]api.Share {
	tooGreat := elementOf(modulus(s.Field))
	greatest := api.Element{math.MaxUint64, math.MaxUint64, math.MaxUint64, math.MaxUint64}
	wrong := map[api.Errno][]api.Share{}
	add := func(e api.Errno, id, threshold, index, length int, payload ...api.Element) {
		wrong[e] = append(wrong[e], header{id, threshold, length}.share(index, payload))
	}
	for _, x := range wrongIndices() {
		add(api.ErrField, x, 0, 0, -1)
		add(api.ErrThreshold, s.Field, x, 0, 65536, greatest)
		add(api.ErrIndex, s.Field, s.Threshold, x, -1, greatest, greatest)
	}
	for _, length := range []int{-1, 65536, math.MinInt, math.MaxInt} {
		add(api.ErrSecret, s.Field, s.Threshold, s.Index, length, tooGreat)
	}
	for n := range 5 {
		if n != 2 {
			add(api.ErrLength, s.Field, s.Threshold, s.Index, 40, slices.Repeat([]api.Element{greatest}, n)...)
		}
	}
	for _, x := range []api.Element{tooGreat, greatest} {
		add(api.ErrCanonical, s.Field, s.Threshold, s.Index, 40, x, api.Element{})
		add(api.ErrCanonical, s.Field, s.Threshold, s.Index, 40, api.Element{}, x)
	}
	return wrong
}

// The errors of lists: a wrong share at each position, among the used ones or not,
// also together with errors that are mentioned later.
func TestWrongShares(t *testing.T) {
	r := rand.New(rand.NewSource(19))
	for _, id := range ids {
		l := header{id, 2, 40}.any(r, []int{5, 1, 255})
		for e, wrong := range wrongShares(l[1]) {
			for _, s := range wrong {
				checkError(t, []api.Share{s}, e)
				for i := range l {
					m := slices.Clone(l)
					m[i] = s
					checkError(t, m, e)
				}
			}
		}
	}
}

// The errors of lists: the first share with an error decides.
func TestFirstWrongShare(t *testing.T) {
	r := rand.New(rand.NewSource(20))
	s := header{1, 2, 40}.any(r, []int{5})[0]
	for e, wrong := range wrongShares(s) {
		for _, others := range wrongShares(s) {
			checkError(t, []api.Share{s, wrong[0], others[0], s}, e)
		}
	}
}

// The errors of lists: other headers and equal indices at each pair of positions,
// among the used ones or not.
func TestMixedAndDuplicateShares(t *testing.T) {
	r := rand.New(rand.NewSource(21))
	for _, id := range ids {
		h := header{id, 2, 40}
		others := []header{{3 - id, 2, 40}, {id, 1, 40}, {id, 3, 40}, {id, 255, 40}, {id, 2, 39}, {id, 2, 41}, {id, 2, 0}, {id, 2, 93}}
		for k := range 5 {
			for _, other := range others {
				l := h.any(r, upTo(5))
				l[k] = other.any(r, []int{k + 1})[0]
				checkError(t, l, api.ErrMixed)
				l[k].Index = 1 + (k+1)%5
				checkError(t, l, api.ErrMixed)
			}
			for i := range k {
				l := h.any(r, upTo(5))
				l[k].Index = l[i].Index
				checkError(t, l, api.ErrDuplicate)
				l[k] = l[i]
				checkError(t, l, api.ErrDuplicate)
			}
		}
		few := header{id, 9, 40}.any(r, []int{4, 4})
		checkError(t, few, api.ErrDuplicate)
		few[1].Length = 41
		checkError(t, few, api.ErrMixed)
	}
}

// P17.5: shares of a secret, of the numbers from the threshold on and in any order,
// yield it, and each other share.
func TestSharesOfSecrets(t *testing.T) {
	r := rand.New(rand.NewSource(22))
	for _, id := range ids {
		for _, length := range []int{0, 1, 31, 32, 100} {
			for _, threshold := range []int{1, 2, 3, 10} {
				p := api.Params{Field: id, Threshold: threshold, Shares: 255, Length: length}
				secret := noise(length, r.Int63())
				all, e := deal.Deal(nil, p, secret, noise(64*threshold*countOf(length), r.Int63()))
				if e != api.OK {
					t.Fatalf("Deal of %+v returns %v", p, e)
				}
				for _, n := range []int{threshold, threshold + 1, 2 * threshold, 255} {
					l := shuffled(r, all)[:n]
					checkCombine(t, l, secret, api.OK)
					for range 5 {
						s := all[r.Intn(255)]
						checkAt(t, l, s.Index, s, api.OK)
					}
				}
			}
		}
	}
}

// P17.5: each set of five shares, in ascending order and in any order.
func TestSetsOfShares(t *testing.T) {
	r := rand.New(rand.NewSource(23))
	for _, id := range ids {
		p := api.Params{Field: id, Threshold: 3, Shares: 5, Length: 40}
		secret := noise(40, 24)
		all, _ := deal.Deal(nil, p, secret, noise(256, 25))
		for set := range 1 << 5 {
			var l []api.Share
			for i, s := range all {
				if set>>i&1 == 1 {
					l = append(l, s)
				}
			}
			if len(l) < 3 {
				checkError(t, l, api.ErrFew)
				continue
			}
			checkCombine(t, l, secret, api.OK)
			checkCombine(t, shuffled(r, l), secret, api.OK)
			for _, s := range all {
				checkAt(t, l, s.Index, s, api.OK)
			}
		}
	}
}

// P17.5: shares that At returns stand in for those of the secret.
func TestSharesOfAt(t *testing.T) {
	for _, id := range ids {
		p := api.Params{Field: id, Threshold: 3, Shares: 3, Length: 70}
		secret := noise(70, 26)
		l, _ := deal.Deal(nil, p, secret, noise(384, 27))
		var others []api.Share
		for _, index := range []int{255, 4, 100} {
			s, _ := join.At(nil, l, index)
			others = append(others, s)
		}
		checkCombine(t, others, secret, api.OK)
		for _, s := range l {
			checkAt(t, others, s.Index, s, api.OK)
		}
	}
}

// The results are newly allocated: they share no memory with the arguments or with
// each other, also beyond their lengths.
func TestResultsAreNewMemory(t *testing.T) {
	r := rand.New(rand.NewSource(28))
	for _, id := range ids {
		for _, threshold := range []int{1, 2, 3} {
			secret := noise(93, 29)
			l := header{id, threshold, 93}.of(r, []int{7, 1, 255, 4}, chunksOf(id, secret))
			before, want := clone(l), chunksOf(id, secret)
			v, _ := join.Values(nil, l)
			b, _ := join.Combine(nil, l)
			s, _ := join.At(nil, l, 7)
			clear(v[:cap(v)])
			clear(b[:cap(b)])
			clear(s.Payload[:cap(s.Payload)])
			if !sameShares(l, before) {
				t.Errorf("field %d, threshold %d: results share memory with the arguments", id, threshold)
			}
			v, _ = join.Values(nil, l)
			b, _ = join.Combine(nil, l)
			s, _ = join.At(nil, l, 7)
			for _, u := range l {
				clear(u.Payload)
			}
			if !slices.Equal(v, want) || !bytes.Equal(b, secret) || !sameShare(s, before[0]) {
				t.Errorf("field %d, threshold %d: results share memory", id, threshold)
			}
		}
	}
}

// The functions may be called concurrently, for the same shares too.
func TestConcurrentCalls(t *testing.T) {
	r := rand.New(rand.NewSource(30))
	var calls sync.WaitGroup
	for _, id := range ids {
		l := header{id, 3, 100}.any(r, []int{9, 4, 255, 77})
		for i := range 8 {
			calls.Go(func() {
				u := tape.New()
				for range 5 {
					checkSecret(t, l)
					checkIndex(t, l, i+1)
					join.Combine(u, l)
				}
			})
		}
	}
	calls.Wait()
}
