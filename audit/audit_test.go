package audit_test

import (
	"math/big"
	"math/rand"
	"slices"
	"sync"
	"testing"

	"sharecore/api"
	"sharecore/audit"
	"sharecore/deal"
	"sharecore/tape"
)

// amid returns shares that stand among others, which are of no secret.
func amid(l []api.Share) []api.Share {
	other := header{9, -1, 70}.share(0, nil)
	return slices.Concat([]api.Share{other}, l, []api.Share{other, other})[1 : 1+len(l)]
}

// checkKept checks that a call has not changed its shares and what stands beside them.
func checkKept(t *testing.T, name string, l []api.Share, call func(l []api.Share)) {
	t.Helper()
	given := amid(clone(l))
	before := clone(given[:len(l)+2])
	call(given)
	if !sameShares(given[:len(l)+2], before) {
		t.Errorf("%s has changed its arguments", name)
	}
}

// checkConsistent checks one call of Consistent, without a tape.
func checkConsistent(t *testing.T, l []api.Share, want bool, wantError api.Errno) {
	t.Helper()
	checkKept(t, "Consistent", l, func(l []api.Share) {
		t.Helper()
		got, e := audit.Consistent(nil, l)
		if got != want || e != wantError {
			t.Errorf("Consistent of %d shares returns %t and %v instead of %t and %v", len(l), got, e, want, wantError)
		}
	})
}

// checkChunks checks one call of Chunks, without a tape.
func checkChunks(t *testing.T, l []api.Share, want []bool, wantError api.Errno) {
	t.Helper()
	checkKept(t, "Chunks", l, func(l []api.Share) {
		t.Helper()
		got, e := audit.Chunks(nil, l)
		if !slices.Equal(got, want) || e != wantError {
			t.Errorf("Chunks of %d shares returns %t and %v instead of %t and %v", len(l), got, e, want, wantError)
		}
	})
}

// checkSuspects checks one call of Suspects, without a tape.
func checkSuspects(t *testing.T, l []api.Share, want []int, wantError api.Errno) {
	t.Helper()
	checkKept(t, "Suspects", l, func(l []api.Share) {
		t.Helper()
		got, e := audit.Suspects(nil, l)
		if !slices.Equal(got, want) || e != wantError {
			t.Errorf("Suspects of %d shares returns %d and %v instead of %d and %v", len(l), got, e, want, wantError)
		}
	})
}

// checkAnswers checks Consistent and Chunks of shares without errors, for which each
// chunk has an answer.
func checkAnswers(t *testing.T, l []api.Share, want []bool) {
	t.Helper()
	checkConsistent(t, l, !slices.Contains(want, false), api.OK)
	checkChunks(t, l, want, api.OK)
}

// checkShares checks all functions for shares without errors, by the formula of
// Lagrange.
func checkShares(t *testing.T, l []api.Share) {
	t.Helper()
	checkAnswers(t, l, answersOf(l))
	suspects, e := suspectsOf(l)
	checkSuspects(t, l, suspects, e)
}

// checkAllConsistent checks all functions for consistent shares, the others of which
// are consistent without any of them.
func checkAllConsistent(t *testing.T, l []api.Share) {
	t.Helper()
	checkAnswers(t, l, slices.Repeat([]bool{true}, len(l[0].Payload)))
	if len(l) == l[0].Threshold {
		checkSuspects(t, l, nil, api.ErrFew)
	} else {
		checkSuspects(t, l, positions(len(l)), api.OK)
	}
}

// checkOneChanged checks all functions for shares that were consistent until elements
// of the share with the position i were changed, for some chunks. There are more
// shares than the threshold.
func checkOneChanged(t *testing.T, l []api.Share, i int, chunks ...int) {
	t.Helper()
	want := slices.Repeat([]bool{true}, len(l[0].Payload))
	for _, k := range chunks {
		want[k] = false
	}
	checkAnswers(t, l, want)
	suspects := []int{i}
	// Without any one of them, so few shares are consistent whatever they are.
	if len(l) == l[0].Threshold+1 {
		suspects = positions(len(l))
	}
	checkSuspects(t, l, suspects, api.OK)
}

// checkError checks that all functions return an error of a list.
func checkError(t *testing.T, l []api.Share, want api.Errno) {
	t.Helper()
	checkConsistent(t, l, false, want)
	checkChunks(t, l, nil, want)
	checkSuspects(t, l, nil, want)
}

// The examples of the chapter.
func TestExamples(t *testing.T) {
	for _, id := range ids {
		h := header{id, 2, 1}
		l := []api.Share{h.share(1, list(id, 8)), h.share(2, list(id, 11)), h.share(3, list(id, 14))}
		checkAnswers(t, l, []bool{true})
		checkSuspects(t, l, []int{0, 1, 2}, api.OK)
		l[2].Payload = list(id, 15)
		checkAnswers(t, l, []bool{false})
		checkSuspects(t, l, []int{0, 1, 2}, api.OK)
	}
}

// The example 8 of the document, and P18.5: as many shares as the threshold are
// consistent, whatever their values are.
func TestAsManyAsTheThreshold(t *testing.T) {
	r := rand.New(rand.NewSource(1))
	for _, id := range ids {
		for _, threshold := range []int{1, 2, 3, 4, 7, 20} {
			for _, length := range []int{0, 1, 31, 32, 100} {
				l := header{id, threshold, length}.any(r, indices(r, threshold))
				checkAllConsistent(t, l)
			}
		}
	}
}

// P18.1 to P18.3: any elements, thresholds, indices and numbers of chunks.
func TestAnyElements(t *testing.T) {
	r := rand.New(rand.NewSource(2))
	for _, id := range ids {
		for _, threshold := range []int{1, 2, 3, 4, 7} {
			for _, length := range []int{0, 1, 30, 31, 32, 62, 63, 100} {
				h := header{id, threshold, length}
				for _, further := range []int{0, 1, 2, 5} {
					checkShares(t, h.any(r, indices(r, threshold+further)))
				}
			}
		}
	}
}

// P18.1 to P18.3: all shares with few values, of which some are consistent, some are
// without some others, and some are not.
func TestFewValues(t *testing.T) {
	for _, id := range ids {
		for _, threshold := range []int{1, 2, 3} {
			for _, xs := range [][]int{{1, 2, 3}, {5, 1, 3, 4}, {4, 2, 1, 3, 255}} {
				for code := range 1 << len(xs) {
					h := header{id, threshold, 1}
					var l []api.Share
					for i, x := range xs {
						l = append(l, h.share(x, list(id, int64(code>>i&1))))
					}
					checkShares(t, l)
				}
			}
		}
	}
}

// P18.1 to P18.3: all shares on some lines of three values and beside them.
func TestLines(t *testing.T) {
	for _, id := range ids {
		h := header{id, 2, 31}
		for code := range 81 {
			var l []api.Share
			for _, x := range []int{3, 1, 2, 4} {
				l = append(l, h.share(x, list(id, int64(code%3-1))))
				code /= 3
			}
			checkShares(t, l)
		}
	}
}

// P18.1 and P18.2: polynomials with one coefficient more than the threshold, and with
// as many, also if the last ones are 0.
func TestDegrees(t *testing.T) {
	r := rand.New(rand.NewSource(3))
	for _, id := range ids {
		for _, threshold := range []int{1, 2, 3, 6} {
			for n := range threshold + 2 {
				xs := indices(r, threshold+3)
				l := header{id, threshold, 1}.zeros(xs)
				var c []api.Element
				for range n {
					c = append(c, formOf(id, big.NewInt(1+r.Int63())))
				}
				for i, x := range xs {
					l[i].Payload[0] = eval(id, c, x)
				}
				checkAnswers(t, l, []bool{n <= threshold})
			}
		}
	}
}

// P18.1 to P18.3: elements at the borders of the field.
func TestBorders(t *testing.T) {
	for _, id := range ids {
		var borders []api.Element
		for _, d := range []int64{1, 2} {
			borders = append(borders, elementOf(big.NewInt(d-1)), elementOf(new(big.Int).Sub(modulus(id), big.NewInt(d))))
			borders = append(borders, list(id, d, -d)...)
		}
		h := header{id, 1, 62}
		for _, a := range borders {
			for _, b := range borders {
				l := []api.Share{h.share(255, []api.Element{a, b}), h.share(1, []api.Element{a, a}), h.share(7, []api.Element{b, b})}
				checkShares(t, l)
			}
		}
	}
}

// P18.5: consistent shares, and each single change of an element.
func TestSingleChanges(t *testing.T) {
	r := rand.New(rand.NewSource(4))
	for _, id := range ids {
		for _, threshold := range []int{1, 2, 3, 5} {
			for _, length := range []int{1, 31, 70} {
				for _, further := range []int{1, 2, 4} {
					h := header{id, threshold, length}
					all := h.consistent(r, indices(r, threshold+further))
					checkAllConsistent(t, all)
					for i := range all {
						for k := range countOf(length) {
							l := clone(all)
							change(l[i], k)
							checkOneChanged(t, l, i, k)
						}
					}
				}
			}
		}
	}
}

// P18.5: changes by each power of 2, of each of the words.
func TestSmallChanges(t *testing.T) {
	r := rand.New(rand.NewSource(5))
	for _, id := range ids {
		all := header{id, 2, 40}.consistent(r, []int{9, 1, 255, 30})
		for bit := range modulus(id).BitLen() {
			for _, d := range []*big.Int{new(big.Int).Lsh(big.NewInt(1), uint(bit)), new(big.Int).Lsh(big.NewInt(-1), uint(bit))} {
				l := clone(all)
				l[bit%4].Payload[1] = plus(id, l[bit%4].Payload[1], d)
				checkOneChanged(t, l, bit%4, 1)
			}
		}
	}
}

// P18.1 to P18.3: several changed elements of the same share, which is the only
// suspect.
func TestChangesOfOneShare(t *testing.T) {
	r := rand.New(rand.NewSource(6))
	for _, id := range ids {
		all := header{id, 2, 120}.consistent(r, []int{4, 3, 200, 1})
		for i := range all {
			for _, chunks := range [][]int{{0, 1}, {0, 3}, {1, 2}, {1, 3}, {2, 3}, {0, 1, 2, 3}} {
				l := clone(all)
				for _, k := range chunks {
					change(l[i], k)
				}
				checkOneChanged(t, l, i, chunks...)
			}
		}
	}
}

// P18.1 to P18.3: changed elements of two shares, of the same chunk or not. Without
// one of both, the others are not consistent.
func TestChangesOfTwoShares(t *testing.T) {
	r := rand.New(rand.NewSource(7))
	for _, id := range ids {
		all := header{id, 2, 62}.consistent(r, []int{4, 3, 200, 1, 8})
		for k := range all {
			for i := range k {
				l := clone(all)
				change(l[i], 0)
				change(l[k], 1)
				checkAnswers(t, l, []bool{false, false})
				checkSuspects(t, l, nil, api.OK)
				l = clone(all)
				change(l[i], 1)
				l[k].Payload[1] = anyElement(r, id)
				checkAnswers(t, l, []bool{true, false})
				checkShares(t, l)
			}
		}
	}
}

// P18.3: a share beside the line of the others, at each position, is the only suspect,
// unless there are so few that any two others are on a line.
func TestOutlier(t *testing.T) {
	for _, id := range ids {
		h := header{id, 2, 1}
		outlier := h.share(9, list(id, 5))
		for n := 2; n <= 6; n++ {
			var line []api.Share
			for _, x := range upTo(n) {
				line = append(line, h.share(x, list(id, int64(10-3*x))))
			}
			for i := range n + 1 {
				want := []int{i}
				if n == 2 {
					want = []int{0, 1, 2}
				}
				l := slices.Insert(slices.Clone(line), i, outlier)
				checkAnswers(t, l, []bool{false})
				checkSuspects(t, l, want, api.OK)
			}
		}
	}
}

// P18.1 to P18.3: a changed element of each chunk of several.
func TestSeveralChunks(t *testing.T) {
	r := rand.New(rand.NewSource(8))
	for _, id := range ids {
		for n := 2; n <= 9; n++ {
			all := header{id, 1, 31*n - 30}.consistent(r, []int{7, 1, 2})
			for k := range n {
				l := clone(all)
				change(l[k%3], k)
				checkOneChanged(t, l, k%3, k)
			}
		}
	}
}

// P18.1 to P18.3: the longest secrets.
func TestLongestSecrets(t *testing.T) {
	r := rand.New(rand.NewSource(9))
	for _, h := range []header{{1, 2, 65535}, {2, 1, 65504}} {
		l := h.consistent(r, []int{201, 3, 77, 9}[:h.threshold+2])
		checkAnswers(t, l, slices.Repeat([]bool{true}, countOf(h.length)))
		last := countOf(h.length) - 1
		change(l[1], 0)
		change(l[1], last)
		checkOneChanged(t, l, 1, 0, last)
	}
}

// P18.1 to P18.3: the empty secret has no chunks, so that all its shares are
// consistent.
func TestEmptySecret(t *testing.T) {
	for _, id := range ids {
		for _, threshold := range []int{1, 2, 3, 254, 255} {
			all := header{id, threshold, 0}.zeros(upTo(255))
			for _, n := range []int{threshold, min(threshold+1, 255), 255} {
				checkAllConsistent(t, all[:n])
			}
		}
	}
}

// P18.1 and P18.2: small thresholds, and great ones around powers of two, for some
// further shares, all of which are consistent until the last one is changed.
func TestThresholds(t *testing.T) {
	r := rand.New(rand.NewSource(10))
	check := func(threshold int) {
		n := threshold + 1 + threshold%3
		l := header{1 + threshold%2, threshold, 1}.consistent(r, indices(r, n))
		checkAnswers(t, l, []bool{true})
		change(l[n-1], 0)
		checkAnswers(t, l, []bool{false})
	}
	for threshold := 1; threshold <= 50; threshold++ {
		check(threshold)
	}
	for _, threshold := range []int{63, 64, 65, 100, 127, 128, 129, 192, 252} {
		check(threshold)
	}
}

// P18.3: the suspects for greater thresholds.
func TestSuspectsOfThresholds(t *testing.T) {
	r := rand.New(rand.NewSource(11))
	for _, threshold := range []int{10, 16, 31, 32, 33} {
		for _, further := range []int{1, 2} {
			n := threshold + further
			l := header{1 + threshold%2, threshold, 32}.consistent(r, indices(r, n))
			change(l[threshold/2], 1)
			checkOneChanged(t, l, threshold/2, 1)
		}
	}
}

// P18.1 and P18.2: all shares that a secret can have. (TestEmptySecret has as many for
// Suspects, which would take long here.)
func TestAllIndices(t *testing.T) {
	r := rand.New(rand.NewSource(12))
	for _, h := range []header{{1, 1, 1}, {2, 128, 1}, {1, 254, 1}, {2, 255, 1}} {
		l := h.consistent(r, indices(r, 255))
		checkAnswers(t, l, []bool{true})
		change(l[200], 0)
		checkAnswers(t, l, []bool{h.threshold == 255})
	}
}

// P18.1 to P18.3: each order of shares of which one is changed.
func TestOrders(t *testing.T) {
	r := rand.New(rand.NewSource(13))
	for _, id := range ids {
		for threshold := 1; threshold <= 4; threshold++ {
			all := header{id, threshold, 62}.consistent(r, []int{2, 3, 5, 250, 9})
			change(all[3], 1)
			for _, l := range orders(all) {
				i := slices.IndexFunc(l, func(s api.Share) bool { return s.Index == 250 })
				checkOneChanged(t, l, i, 1)
			}
		}
	}
}

// The errors of lists: too few shares, although there are more beyond the list.
func TestFewShares(t *testing.T) {
	r := rand.New(rand.NewSource(14))
	checkError(t, nil, api.ErrFew)
	checkError(t, []api.Share{}, api.ErrFew)
	for _, id := range ids {
		for _, threshold := range []int{1, 2, 3, 9, 255} {
			for _, length := range []int{0, 1, 40} {
				l := header{id, threshold, length}.consistent(r, indices(r, 255))
				for n := range threshold {
					checkError(t, l[:n], api.ErrFew)
				}
				few := l[:threshold-1]
				_, e := audit.Consistent(nil, few)
				_, g := audit.Chunks(nil, few)
				_, i := audit.Suspects(nil, few)
				_, k := audit.Suspects(nil, l[:threshold])
				if e != api.ErrFew || g != e || i != e || k != e {
					t.Errorf("the threshold %d: the functions use shares beyond a slice: %v, %v, %v and %v", threshold, e, g, i, k)
				}
			}
		}
	}
}

// P18.3: Suspects needs more shares than the threshold, and the errors of lists come
// before this one.
func TestFewSuspects(t *testing.T) {
	r := rand.New(rand.NewSource(15))
	for _, id := range ids {
		for _, threshold := range []int{1, 2, 3, 9} {
			for _, length := range []int{0, 1, 40} {
				h := header{id, threshold, length}
				l := h.consistent(r, indices(r, threshold+1))
				checkSuspects(t, l[:threshold], nil, api.ErrFew)
				checkSuspects(t, l, positions(threshold+1), api.OK)
				other := l[threshold]
				other.Threshold++
				checkSuspects(t, append(slices.Clone(l[:threshold]), other), nil, api.ErrMixed)
			}
		}
		l := header{id, 3, 40}.any(r, []int{4, 9, 4})
		checkSuspects(t, l, nil, api.ErrDuplicate)
		l[2].Payload[1] = elementOf(modulus(id))
		checkSuspects(t, l, nil, api.ErrCanonical)
	}
}

// The errors of lists: a wrong share at each position, also together with errors that
// are mentioned later.
func TestWrongShares(t *testing.T) {
	r := rand.New(rand.NewSource(16))
	for _, id := range ids {
		l := header{id, 2, 40}.any(r, []int{5, 1, 255})
		for e, wrong := range wrongShares(l[1]) {
			for _, s := range wrong {
				checkError(t, []api.Share{s}, e)
				for i := range l {
					m := slices.Clone(l)
					m[i] = s
					checkError(t, m, e)
				}
			}
		}
	}
}

// The errors of lists: the first share with an error decides.
func TestFirstWrongShare(t *testing.T) {
	r := rand.New(rand.NewSource(17))
	s := header{1, 2, 40}.any(r, []int{5})[0]
	for e, wrong := range wrongShares(s) {
		for _, others := range wrongShares(s) {
			checkError(t, []api.Share{s, wrong[0], others[0], s}, e)
		}
	}
}

// The errors of lists: other headers and equal indices at each pair of positions.
// Suspects does not leave out a share with an error.
func TestMixedAndDuplicateShares(t *testing.T) {
	r := rand.New(rand.NewSource(18))
	for _, id := range ids {
		h := header{id, 2, 40}
		others := []header{{3 - id, 2, 40}, {id, 1, 40}, {id, 3, 40}, {id, 255, 40}, {id, 2, 39}, {id, 2, 41}, {id, 2, 0}, {id, 2, 93}}
		for k := range 5 {
			for _, other := range others {
				l := h.consistent(r, upTo(5))
				l[k] = other.zeros([]int{k + 1})[0]
				checkError(t, l, api.ErrMixed)
				l[k].Index = 1 + (k+1)%5
				checkError(t, l, api.ErrMixed)
			}
			for i := range k {
				l := h.consistent(r, upTo(5))
				l[k].Index = l[i].Index
				checkError(t, l, api.ErrDuplicate)
				l[k] = l[i]
				checkError(t, l, api.ErrDuplicate)
			}
		}
		few := header{id, 9, 40}.any(r, []int{4, 4})
		checkError(t, few, api.ErrDuplicate)
		few[1].Length = 41
		checkError(t, few, api.ErrMixed)
	}
}

// P18.5: the shares of secrets are consistent, and are not if one bit of one element
// is changed.
func TestSharesOfSecrets(t *testing.T) {
	r := rand.New(rand.NewSource(19))
	for _, id := range ids {
		for _, threshold := range []int{1, 2, 3, 10} {
			for _, length := range []int{0, 1, 31, 32, 100} {
				p := api.Params{Field: id, Threshold: threshold, Shares: threshold + 5, Length: length}
				all, e := deal.Deal(nil, p, noise(length, r.Int63()), noise(64*threshold*countOf(length), r.Int63()))
				if e != api.OK {
					t.Fatalf("Deal of %+v returns %v", p, e)
				}
				r.Shuffle(len(all), func(i, k int) { all[i], all[k] = all[k], all[i] })
				for n := threshold; n <= len(all); n++ {
					checkAllConsistent(t, all[:n])
					if n > threshold && length > 0 {
						l := clone(all[:n])
						i, k := r.Intn(n), r.Intn(countOf(length))
						// The lowest bit of the highest word leaves the element in the field.
						l[i].Payload[k][3] ^= 1
						checkOneChanged(t, l, i, k)
					}
				}
			}
		}
	}
}

// P18.5: each set of five shares of a secret, of which one is changed or not.
func TestSetsOfShares(t *testing.T) {
	for _, id := range ids {
		p := api.Params{Field: id, Threshold: 2, Shares: 5, Length: 40}
		all, _ := deal.Deal(nil, p, noise(40, 20), noise(128, 21))
		wrong := clone(all)
		change(wrong[2], 0)
		for set := range 1 << 5 {
			var l, m []api.Share
			for i := range all {
				if set>>i&1 == 1 {
					l, m = append(l, all[i]), append(m, wrong[i])
				}
			}
			if len(l) < 2 {
				checkError(t, l, api.ErrFew)
				continue
			}
			checkAllConsistent(t, l)
			checkShares(t, m)
		}
	}
}

// P18.5: shares of two secrets are not consistent with each other.
func TestSharesOfTwoSecrets(t *testing.T) {
	for _, id := range ids {
		p := api.Params{Field: id, Threshold: 2, Shares: 6, Length: 40}
		l, _ := deal.Deal(nil, p, noise(40, 22), noise(128, 23))
		m, _ := deal.Deal(nil, p, noise(40, 24), noise(128, 25))
		for n := range 7 {
			both := slices.Concat(l[:n], m[n:])
			all := n == 0 || n == 6
			checkAnswers(t, both, []bool{all, all})
			checkShares(t, both)
		}
	}
}

// The results are newly allocated: they share no memory with the arguments or with
// each other, also beyond their lengths.
func TestResultsAreNewMemory(t *testing.T) {
	r := rand.New(rand.NewSource(26))
	for _, id := range ids {
		for _, threshold := range []int{1, 2, 3} {
			l := header{id, threshold, 93}.consistent(r, []int{7, 1, 255, 4})
			before := clone(l)
			answers, _ := audit.Chunks(nil, l)
			suspects, _ := audit.Suspects(nil, l)
			clear(answers[:cap(answers)])
			clear(suspects[:cap(suspects)])
			if !sameShares(l, before) {
				t.Errorf("field %d, threshold %d: results share memory with the arguments", id, threshold)
			}
			checkAllConsistent(t, l)
		}
	}
}

// Suspects leaves its argument as it is while it works, as other calls may read it.
func TestConcurrentCalls(t *testing.T) {
	r := rand.New(rand.NewSource(27))
	var calls sync.WaitGroup
	for _, id := range ids {
		l := header{id, 3, 100}.consistent(r, []int{9, 4, 255, 77, 1, 30})
		change(l[4], 2)
		for range 8 {
			calls.Go(func() {
				u := tape.New()
				for range 5 {
					answers, _ := audit.Chunks(u, l)
					suspects, _ := audit.Suspects(u, l)
					consistent, _ := audit.Consistent(u, l)
					if consistent || !slices.Equal(answers, []bool{true, true, false, true}) || !slices.Equal(suspects, []int{4}) {
						t.Errorf("calls at a time return %t, %t and %d", consistent, answers, suspects)
					}
				}
			})
		}
	}
	calls.Wait()
}
