package params_test

import (
	"encoding/binary"
	"math"
	"math/big"
	"math/rand"
	"slices"
	"sync"
	"testing"

	"sharecore/api"
	"sharecore/params"
)

// modulus returns the modulus of a field, as the document writes it.
func modulus(id int) *big.Int {
	digits := map[int]string{
		api.Field25519: "7fffffffffffffffffffffffffffffffffffffffffffffffffffffffffffffed",
		api.FieldP256:  "ffffffff00000000ffffffffffffffffbce6faada7179e84f3b9cac2fc632551",
	}
	p, _ := new(big.Int).SetString(digits[id], 16)
	return p
}

// elementOf returns the element that is x as a number.
func elementOf(x *big.Int) api.Element {
	b := x.FillBytes(make([]byte, 32))
	var e api.Element
	for i := range e {
		e[i] = binary.BigEndian.Uint64(b[8*(3-i):])
	}
	return e
}

// above returns the element that is the modulus of a field and d as a number.
func above(id int, d int64) api.Element {
	return elementOf(new(big.Int).Add(modulus(id), big.NewInt(d)))
}

// countOf returns the number of chunks of a secret.
func countOf(length int) int {
	n := 0
	for start := 0; start < length; start += 31 {
		n++
	}
	return n
}

// shareOf returns a correct share with a header, an index and random elements.
func shareOf(id, threshold, index, length int) api.Share {
	r := rand.New(rand.NewSource(int64(id + 3*index)))
	s := api.Share{Field: id, Threshold: threshold, Index: index, Length: length}
	for range countOf(length) {
		s.Payload = append(s.Payload, elementOf(new(big.Int).Rand(r, modulus(id))))
	}
	return s
}

// sharesOf returns n correct shares of one header, with the indices from 1 on.
func sharesOf(id, threshold, n, length int) []api.Share {
	var l []api.Share
	for i := range n {
		l = append(l, shareOf(id, threshold, i+1, length))
	}
	return l
}

// clone returns a copy of shares that shares no memory with them.
func clone(l []api.Share) []api.Share {
	l = slices.Clone(l)
	for i := range l {
		l[i].Payload = slices.Clone(l[i].Payload)
	}
	return l
}

func sameShares(l, m []api.Share) bool {
	return slices.EqualFunc(l, m, func(s, u api.Share) bool {
		same := s.Field == u.Field && s.Threshold == u.Threshold && s.Index == u.Index && s.Length == u.Length
		return same && slices.Equal(s.Payload, u.Payload)
	})
}

func checkParams(t *testing.T, p api.Params, want api.Errno) {
	t.Helper()
	if got := params.Check(p); got != want {
		t.Errorf("Check of %+v returns %v instead of %v", p, got, want)
	}
	if want != api.OK && params.Random(p) != 0 {
		t.Errorf("Random of %+v returns %d", p, params.Random(p))
	}
}

// checkShare checks CheckShare of one share, and that it leaves the share as it is.
func checkShare(t *testing.T, s api.Share, want api.Errno) {
	t.Helper()
	before := clone([]api.Share{s})
	if got := params.CheckShare(s); got != want {
		t.Errorf("CheckShare of field %d, threshold %d, index %d, length %d and %d elements returns %v instead of %v", s.Field, s.Threshold, s.Index, s.Length, len(s.Payload), got, want)
	}
	if !sameShares(before, []api.Share{s}) {
		t.Errorf("CheckShare has changed a share")
	}
}

// checkShares checks CheckShares of one list, which stands amid other shares.
func checkShares(t *testing.T, l []api.Share, want api.Errno) {
	t.Helper()
	amid := slices.Concat([]api.Share{{Field: 9}}, l, []api.Share{{Field: 9}})
	before := clone(amid)
	if got := params.CheckShares(amid[1 : 1+len(l)]); got != want {
		t.Errorf("CheckShares of the indices %v returns %v instead of %v", params.Indices(l), got, want)
	}
	if !sameShares(amid, before) {
		t.Errorf("CheckShares has changed shares")
	}
}

// wrongFields returns numbers of no field.
func wrongFields() []int {
	return []int{0, 3, -1, -2, 4, 255, 256, 257, 65537, 1 << 32, 1<<32 + 1, 1<<32 + 2, math.MinInt, math.MinInt + 1, math.MaxInt}
}

// wrongCounts returns numbers that are not from 1 to 255.
func wrongCounts() []int {
	return []int{0, 256, -1, -2, -255, -256, 257, 258, 65536, 65537, 1 << 32, 1<<32 + 1, 1<<32 + 3, math.MinInt, math.MinInt + 1, math.MinInt + 3, math.MaxInt}
}

// wrongLengths returns numbers of bytes that no secret has.
func wrongLengths() []int {
	return []int{-1, 65536, -2, -30, -31, -32, -65535, -65536, 65537, 65566, 131072, 1 << 32, 1<<32 + 40, math.MinInt, math.MinInt + 40, math.MaxInt}
}

// lengths returns lengths of secrets.
func lengths() []int {
	return []int{0, 1, 2, 30, 31, 32, 40, 61, 62, 63, 255, 256, 1000, 65534, 65535}
}

// The example of the chapter, and those of the document.
func TestExample(t *testing.T) {
	p := api.Params{Field: 1, Threshold: 2, Shares: 3, Length: 40}
	checkParams(t, p, api.OK)
	if got := params.Random(p); got != 128 {
		t.Errorf("%+v need %d random bytes", p, got)
	}
	s := api.Share{Field: 1, Threshold: 2, Index: 3, Length: 32, Payload: make([]api.Element, 2)}
	checkShare(t, s, api.OK)
}

// P15.1: all thresholds and numbers of shares.
func TestThresholdsAndShares(t *testing.T) {
	for shares := -2; shares <= 300; shares++ {
		for threshold := -2; threshold <= 300; threshold++ {
			want := api.OK
			if shares < 1 || shares > 255 {
				want = api.ErrCount
			} else if threshold < 1 || threshold > shares {
				want = api.ErrThreshold
			}
			checkParams(t, api.Params{Field: 1 + shares&1, Threshold: threshold, Shares: shares, Length: 40}, want)
		}
	}
}

// P15.1: all lengths, and those around them.
func TestLengths(t *testing.T) {
	for length := -100; length < 65700; length++ {
		want := api.OK
		if length < 0 || length > 65535 {
			want = api.ErrSecret
		}
		checkParams(t, api.Params{Field: 2, Threshold: 3, Shares: 5, Length: length}, want)
	}
}

// P15.1: each error of each wrong value, whatever is wrong in the parts that are
// mentioned later.
func TestOrderOfParamsErrors(t *testing.T) {
	for _, id := range append(wrongFields(), 1, 2) {
		for _, shares := range append(wrongCounts(), 1, 7, 255) {
			for _, threshold := range append(wrongCounts(), 1, 7, 255) {
				for _, length := range append(wrongLengths(), lengths()...) {
					p := api.Params{Field: id, Threshold: threshold, Shares: shares, Length: length}
					checkParams(t, p, errorOf(p))
				}
			}
		}
	}
}

// errorOf returns the error of parameters, each part of which is right or one of
// the wrong ones above.
func errorOf(p api.Params) api.Errno {
	switch {
	case slices.Contains(wrongFields(), p.Field):
		return api.ErrField
	case slices.Contains(wrongCounts(), p.Shares):
		return api.ErrCount
	case slices.Contains(wrongCounts(), p.Threshold), p.Threshold > p.Shares:
		return api.ErrThreshold
	case slices.Contains(wrongLengths(), p.Length):
		return api.ErrSecret
	}
	return api.OK
}

// P15.2: 64 bytes for each chunk and each coefficient but the first one.
func TestRandom(t *testing.T) {
	for _, id := range []int{1, 2} {
		for _, length := range lengths() {
			for threshold := 1; threshold <= 255; threshold++ {
				want := 0
				for range threshold - 1 {
					want += 64 * countOf(length)
				}
				for _, shares := range []int{threshold, 255} {
					p := api.Params{Field: id, Threshold: threshold, Shares: shares, Length: length}
					if got := params.Random(p); got != want {
						t.Errorf("%+v need %d random bytes instead of %d", p, got, want)
					}
				}
			}
		}
	}
}

// P15.2: every length.
func TestRandomOfAllLengths(t *testing.T) {
	for length := range 65536 {
		want := 64 * 4 * (length / 31)
		if length%31 > 0 {
			want += 64 * 4
		}
		p := api.Params{Field: 1, Threshold: 5, Shares: 6, Length: length}
		if got := params.Random(p); got != want {
			t.Errorf("%+v need %d random bytes instead of %d", p, got, want)
		}
	}
}

// P15.3: correct shares of each threshold and index.
func TestCorrectShares(t *testing.T) {
	for _, id := range []int{1, 2} {
		for threshold := 1; threshold <= 255; threshold++ {
			for index := 1; index <= 255; index++ {
				s := api.Share{Field: id, Threshold: threshold, Index: index, Length: 1, Payload: make([]api.Element, 1)}
				checkShare(t, s, api.OK)
			}
		}
		for _, length := range lengths() {
			checkShare(t, shareOf(id, 3, 200, length), api.OK)
		}
	}
}

// P15.3: every number of elements for each length.
func TestPayloadLengths(t *testing.T) {
	zeros := make([]api.Element, 2120)
	for length := range 200 {
		for n := range 12 {
			checkPayloadLength(t, length, zeros[:n])
		}
	}
	for length := 65535 - 70; length <= 65535; length++ {
		for n := 2110; n <= 2120; n++ {
			checkPayloadLength(t, length, zeros[:n])
		}
	}
}

func checkPayloadLength(t *testing.T, length int, payload []api.Element) {
	t.Helper()
	want := api.OK
	if len(payload) != countOf(length) {
		want = api.ErrLength
	}
	for _, id := range []int{1, 2} {
		checkShare(t, api.Share{Field: id, Threshold: 2, Index: 3, Length: length, Payload: payload}, want)
	}
}

// P15.3: numbers around the modulus and around its words, at each index of a payload.
func TestElements(t *testing.T) {
	limit := new(big.Int).Lsh(big.NewInt(1), 256)
	for _, id := range []int{1, 2} {
		p := modulus(id)
		values := []*big.Int{new(big.Int), modulus(1), modulus(2), new(big.Int).Sub(limit, big.NewInt(1))}
		for bit := range 256 {
			power := new(big.Int).Lsh(big.NewInt(1), uint(bit))
			values = append(values, power, new(big.Int).Add(p, power), new(big.Int).Sub(p, power), new(big.Int).Xor(p, power))
		}
		for _, x := range values {
			// A sum of the modulus and a power may have more than 256 bits.
			if x.Sign() < 0 || x.Cmp(limit) >= 0 {
				continue
			}
			want := api.OK
			if x.Cmp(p) >= 0 {
				want = api.ErrCanonical
			}
			for i := range 3 {
				s := shareOf(id, 2, 3, 90)
				s.Payload[i] = elementOf(x)
				checkShare(t, s, want)
			}
		}
	}
}

// P15.3: one or more elements that are too great, in short and long payloads.
func TestManyElements(t *testing.T) {
	for _, id := range []int{1, 2} {
		for _, n := range []int{1, 2, 7, 2115} {
			length := min(31*n, 65535)
			all := slices.Repeat([]api.Element{above(id, 0)}, n)
			checkShare(t, api.Share{Field: id, Threshold: 2, Index: 3, Length: length, Payload: all}, api.ErrCanonical)
			below := slices.Repeat([]api.Element{above(id, -1)}, n)
			checkShare(t, api.Share{Field: id, Threshold: 2, Index: 3, Length: length, Payload: below}, api.OK)
			for _, i := range []int{0, n / 2, n - 1} {
				s := shareOf(id, 2, 3, length)
				s.Payload[i] = above(id, 0)
				checkShare(t, s, api.ErrCanonical)
			}
		}
	}
}

// A part of a share that is wrong in some way, and the error for it.
type fault struct {
	put  func(s *api.Share)
	want api.Errno
}

// faultGroups returns ways to make each part of a share of two chunks wrong, in the
// order of the errors, with one that leaves the part right at the beginning. The
// elements are changed before the length of the payload.
func faultGroups() [][]fault {
	none := fault{func(s *api.Share) {}, api.OK}
	groups := slices.Repeat([][]fault{{none}}, 6)
	add := func(i int, want api.Errno, put func(s *api.Share)) {
		groups[i] = append(groups[i], fault{put, want})
	}
	for _, n := range wrongFields() {
		add(0, api.ErrField, func(s *api.Share) { s.Field = n })
	}
	for _, n := range wrongCounts() {
		add(1, api.ErrThreshold, func(s *api.Share) { s.Threshold = n })
		add(2, api.ErrIndex, func(s *api.Share) { s.Index = n })
	}
	for _, n := range wrongLengths() {
		add(3, api.ErrSecret, func(s *api.Share) { s.Length = n })
	}
	for _, n := range []int{0, 1, 3, 4} {
		add(4, api.ErrLength, func(s *api.Share) { s.Payload = slices.Concat(s.Payload, s.Payload)[:n] })
	}
	for i := range 2 {
		add(5, api.ErrCanonical, func(s *api.Share) { s.Payload[i] = elementOf(modulus(2)) })
	}
	return groups
}

// P15.3: each error of each wrong value, whatever is wrong in the parts that are
// mentioned later.
func TestOrderOfShareErrors(t *testing.T) {
	groups := faultGroups()
	r := rand.New(rand.NewSource(15))
	check := func(choice []int) {
		s := shareOf(api.FieldP256, 4, 9, 40)
		want := api.OK
		for i := len(groups) - 1; i >= 0; i-- {
			f := groups[i][choice[i]]
			f.put(&s)
			if f.want != api.OK {
				want = f.want
			}
		}
		checkShare(t, s, want)
	}
	for first := range groups {
		for k := range groups[first] {
			choice := make([]int, len(groups))
			choice[first] = k
			check(choice)
			for range 200 {
				for i := first + 1; i < len(groups); i++ {
					choice[i] = r.Intn(len(groups[i]))
				}
				check(choice)
			}
		}
	}
}

// P15.4: every number of shares for each threshold, and none.
func TestNumbersOfShares(t *testing.T) {
	for _, id := range []int{1, 2} {
		for _, threshold := range []int{1, 2, 3, 10, 128, 254, 255} {
			l := sharesOf(id, threshold, 255, 1)
			for n := range 256 {
				want := api.OK
				if n < threshold {
					want = api.ErrFew
				}
				checkShares(t, l[:n], want)
			}
		}
	}
	checkShares(t, nil, api.ErrFew)
	checkShares(t, []api.Share{}, api.ErrFew)
}

// P15.4: shares without elements, with equal ones, and with many.
func TestPayloadsOfShares(t *testing.T) {
	for _, id := range []int{1, 2} {
		for _, length := range lengths() {
			l := sharesOf(id, 2, 4, length)
			checkShares(t, l, api.OK)
			for i := range l {
				l[i].Payload = l[0].Payload
			}
			checkShares(t, l, api.OK)
		}
	}
}

// P15.4: an incorrect share at each position, before and after other errors.
func TestIncorrectShares(t *testing.T) {
	for _, group := range faultGroups() {
		for _, f := range group[1:] {
			for at := range 4 {
				l := sharesOf(api.FieldP256, 3, 4, 40)
				f.put(&l[at])
				checkShares(t, l, f.want)
				checkShares(t, l[:at+1], f.want)
				// The other shares have the same index, and different headers.
				for k := range l {
					if k != at {
						l[k] = shareOf(api.Field25519, 1+k, 7, 90)
					}
				}
				checkShares(t, l, f.want)
			}
		}
	}
}

// P15.4: the error of the first one of two incorrect shares.
func TestFirstIncorrectShare(t *testing.T) {
	groups := faultGroups()
	for i := range groups {
		for k := range groups {
			for _, at := range [][2]int{{0, 1}, {0, 3}, {1, 2}, {2, 3}} {
				l := sharesOf(api.FieldP256, 2, 4, 40)
				groups[i][1].put(&l[at[0]])
				groups[k][1].put(&l[at[1]])
				checkShares(t, l, groups[i][1].want)
			}
		}
	}
}

// P15.4: a different header at each position, alone or together with the same
// indices or too few shares.
func TestMixedShares(t *testing.T) {
	for n := 2; n <= 5; n++ {
		for at := range n {
			index := at + 1
			for _, other := range []api.Share{
				shareOf(1, 2, index, 40), shareOf(2, 1, index, 40), shareOf(2, 3, index, 40), shareOf(2, 255, index, 40),
				shareOf(2, 2, index, 39), shareOf(2, 2, index, 41), shareOf(2, 2, index, 0), shareOf(2, 2, index, 65535),
				shareOf(2, 40, index, 2), shareOf(1, 1, index, 41), shareOf(1, 3, index, 40), shareOf(1, 2, index, 41),
			} {
				l := sharesOf(2, 2, n, 40)
				l[at] = other
				checkShares(t, l, api.ErrMixed)
				l[at].Index = l[(at+1)%n].Index
				checkShares(t, l, api.ErrMixed)
			}
		}
	}
	few := sharesOf(1, 200, 3, 40)
	few[2] = shareOf(1, 201, 3, 40)
	checkShares(t, few, api.ErrMixed)
	few[1].Index = 1
	checkShares(t, few, api.ErrMixed)
}

// P15.4: the same header with different payloads, indices and numbers of shares is
// one header.
func TestHeaderIsNoMore(t *testing.T) {
	l := []api.Share{shareOf(1, 2, 255, 40), shareOf(1, 2, 1, 40), shareOf(1, 2, 40, 40)}
	l[1].Payload[0], l[2].Payload[1] = api.Element{}, above(1, -1)
	checkShares(t, l, api.OK)
}

// P15.4: the same index at each two positions, with the same or another payload, and
// with enough shares or too few.
func TestDuplicateShares(t *testing.T) {
	for _, threshold := range []int{1, 2, 6, 7, 255} {
		for i := range 6 {
			for k := range 6 {
				if i == k {
					continue
				}
				l := sharesOf(1, threshold, 6, 40)
				l[i].Index = l[k].Index
				checkShares(t, l, api.ErrDuplicate)
				l[i] = l[k]
				checkShares(t, l, api.ErrDuplicate)
			}
		}
	}
	for index := 1; index <= 255; index++ {
		s := shareOf(2, 2, index, 1)
		checkShares(t, []api.Share{s, s}, api.ErrDuplicate)
	}
}

// P15.4: more shares than indices, of which the last one is the only duplicate.
func TestMoreSharesThanIndices(t *testing.T) {
	for _, threshold := range []int{1, 255} {
		all := sharesOf(1, threshold, 255, 1)
		for _, s := range []api.Share{all[0], all[100], all[254]} {
			checkShares(t, append(slices.Clone(all), s), api.ErrDuplicate)
		}
	}
}

// P15.6: all orders of correct shares, whether they are accepted or not.
func TestAnyOrder(t *testing.T) {
	right := sharesOf(1, 4, 5, 40)
	mixed, twice := clone(right), clone(right)
	mixed[1] = shareOf(1, 4, 2, 41)
	twice[3].Index = 5
	both := clone(mixed)
	both[3].Index = 5
	for _, c := range []struct {
		l    []api.Share
		want api.Errno
	}{
		{right, api.OK}, {right[:4], api.OK}, {right[:3], api.ErrFew}, {mixed, api.ErrMixed},
		{twice, api.ErrDuplicate}, {both, api.ErrMixed}, {twice[2:], api.ErrDuplicate},
	} {
		permute(clone(c.l), func(l []api.Share) { checkShares(t, l, c.want) })
	}
}

// permute calls f for all orders of l.
func permute(l []api.Share, f func([]api.Share)) { permuteFrom(l, 0, f) }

func permuteFrom(l []api.Share, i int, f func([]api.Share)) {
	if i == len(l) {
		f(l)
		return
	}
	for k := i; k < len(l); k++ {
		l[i], l[k] = l[k], l[i]
		permuteFrom(l, i+1, f)
		l[i], l[k] = l[k], l[i]
	}
}

// anyShares returns shares that may be incorrect, with payloads of any lengths.
func anyShares() []api.Share {
	return []api.Share{
		shareOf(1, 2, 9, 40), {}, shareOf(2, 3, 9, 90), {Index: math.MinInt, Payload: []api.Element{{1}, {2}, {3}, {4}}},
		{Field: 7, Threshold: -1, Index: math.MaxInt, Length: 3, Payload: []api.Element{{5, 6, 7, math.MaxUint64}}}, {Index: -5, Length: -1},
	}
}

// P15.5: the indices of any shares, and of none.
func TestIndices(t *testing.T) {
	l := anyShares()
	want := []int{9, 0, 9, math.MinInt, math.MaxInt, -5}
	for n := range len(l) + 1 {
		if got := params.Indices(l[:n]); !slices.Equal(got, want[:n]) {
			t.Errorf("the indices are %v instead of %v", got, want[:n])
		}
	}
	if got := params.Indices(nil); len(got) != 0 {
		t.Errorf("the indices of no shares are %v", got)
	}
	if !sameShares(l, anyShares()) {
		t.Errorf("Indices has changed shares")
	}
}

// P15.5: the elements of any shares for any chunk, also beyond the payloads and
// where only the capacity has one.
func TestColumn(t *testing.T) {
	l := anyShares()
	l = append(l, api.Share{Payload: []api.Element{{7}, {8}, {9}, {10}}[1:2]})
	before := clone(l)
	for _, chunk := range []int{0, 1, 2, 3, 4, 5, -1, -2, -5, 255, 256, 65536, 1 << 32, 1<<32 + 1, math.MinInt, math.MinInt + 1, math.MaxInt} {
		for n := range len(l) + 1 {
			var want []api.Element
			for _, s := range l[:n] {
				x := api.Element{}
				for i, y := range s.Payload {
					if i == chunk {
						x = y
					}
				}
				want = append(want, x)
			}
			if got := params.Column(l[:n], chunk); !slices.Equal(got, want) {
				t.Errorf("the elements of the chunk %d are %v instead of %v", chunk, got, want)
			}
		}
		if got := params.Column(nil, chunk); len(got) != 0 {
			t.Errorf("the elements of no shares are %v", got)
		}
	}
	if !sameShares(l, before) {
		t.Errorf("Column has changed shares")
	}
}

// P15.5: the columns of correct shares are their payloads, turned.
func TestAllColumns(t *testing.T) {
	l := sharesOf(2, 3, 5, 300)
	for chunk := range 10 {
		for i, x := range params.Column(l, chunk) {
			if x != l[i].Payload[chunk] {
				t.Errorf("the element of the chunk %d and the share %d is %v", chunk, i, x)
			}
		}
	}
}

// P15.5: the results are newly allocated.
func TestResultsAreNewMemory(t *testing.T) {
	l := sharesOf(1, 2, 4, 40)
	for i := range l {
		l[i].Payload[1] = api.Element{uint64(i + 5)}
	}
	before := clone(l)
	indices, column := params.Indices(l), params.Column(l, 1)
	otherIndices, otherColumn := params.Indices(l), params.Column(l, 1)
	clear(indices[:cap(indices)])
	clear(column[:cap(column)])
	if !slices.Equal(otherIndices, []int{1, 2, 3, 4}) || !slices.Equal(otherColumn, []api.Element{{5}, {6}, {7}, {8}}) {
		t.Errorf("results share memory")
	}
	clear(l[0].Payload)
	l[0].Index = 77
	if otherIndices[0] != 1 || otherColumn[0] != (api.Element{5}) {
		t.Errorf("results share memory with the shares")
	}
	l[0] = clone(before)[0]
	if !sameShares(l, before) {
		t.Errorf("the shares share memory with results")
	}
}

// The functions may be called concurrently, for the same shares too.
func TestConcurrentCalls(t *testing.T) {
	l := sharesOf(2, 3, 8, 300)
	few := sharesOf(1, 3, 2, 300)
	var calls sync.WaitGroup
	for range 8 {
		calls.Go(func() {
			for range 20 {
				checkShares(t, l, api.OK)
				checkShares(t, few, api.ErrFew)
				checkParams(t, api.Params{Field: 1, Threshold: 4, Shares: 3}, api.ErrThreshold)
				if got := params.Indices(l); !slices.Equal(got, []int{1, 2, 3, 4, 5, 6, 7, 8}) {
					t.Errorf("the indices are %v", got)
				}
			}
		})
	}
	calls.Wait()
}
