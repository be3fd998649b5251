package record_test

import (
	"bytes"
	"encoding/hex"
	"math/big"
	"math/rand"
	"slices"
	"sync"
	"testing"

	"sharecore/api"
	"sharecore/deal"
	"sharecore/join"
	"sharecore/record"
)

// checkEncode checks Encode of one share, and that it leaves the share as it is.
func checkEncode(t *testing.T, s api.Share, want []byte, wantError api.Errno) {
	t.Helper()
	given := s
	given.Payload = slices.Concat([]api.Element{{5}}, s.Payload, []api.Element{{6}})[1 : 1+len(s.Payload)]
	before := slices.Clone(given.Payload[:len(s.Payload)+1])
	got, e := record.Encode(given)
	if !bytes.Equal(got, want) || e != wantError {
		t.Errorf("Encode of field %d, threshold %d, index %d, length %d and %d elements returns %x and %v instead of %x and %v", s.Field, s.Threshold, s.Index, s.Length, len(s.Payload), got, e, want, wantError)
	}
	if !slices.Equal(given.Payload[:len(s.Payload)+1], before) {
		t.Errorf("Encode has changed elements")
	}
}

// checkDecode checks Decode of one string of bytes, which stands amid others.
func checkDecode(t *testing.T, b []byte, want api.Share, wantError api.Errno) {
	t.Helper()
	amid := slices.Concat([]byte{1, 2}, b, []byte{1, 2})
	before := bytes.Clone(amid)
	got, e := record.Decode(amid[2 : 2+len(b)])
	if !sameShare(got, want) || e != wantError {
		t.Errorf("Decode of %x returns %+v and %v instead of %+v and %v", b, got, e, want, wantError)
	}
	if !bytes.Equal(amid, before) {
		t.Errorf("Decode has changed bytes")
	}
}

// checkParsed checks that Decode returns what the tests' own function returns, and
// that it has accepted records only.
func checkParsed(t *testing.T, b []byte) {
	t.Helper()
	want, wantError := parse(b)
	checkDecode(t, b, want, wantError)
	if s, e := record.Decode(b); e == api.OK {
		checkEncode(t, s, b, api.OK)
	}
}

// checkShare checks both directions for a correct share.
func checkShare(t *testing.T, s api.Share) {
	t.Helper()
	b := recordOf(s)
	checkEncode(t, s, b, api.OK)
	checkDecode(t, b, s, api.OK)
	if got := record.Size(s.Length); got != len(b) {
		t.Errorf("Size of %d returns %d instead of %d", s.Length, got, len(b))
	}
}

// The example of the chapter, and those of the document.
func TestExamples(t *testing.T) {
	b, e := record.Encode(api.Share{Field: 1, Threshold: 2, Index: 3})
	if e != api.OK || len(b) != 38 || !bytes.Equal(b[:6], []byte{1, 1, 2, 3, 0, 0}) {
		t.Errorf("the record is %x, and the error %v", b, e)
	}
	if got := record.Size(32); got != 102 {
		t.Errorf("the record of a share of 32 bytes has %d bytes", got)
	}
}

func TestConstants(t *testing.T) {
	if record.Version != 1 || record.HeadLen != 6 || record.TagLen != 32 {
		t.Errorf("the constants are %d, %d and %d", record.Version, record.HeadLen, record.TagLen)
	}
}

// P19.2 and P19.3: records that were computed by another program.
func TestKnownRecords(t *testing.T) {
	minusOne := new(big.Int).Sub(modulus(1), big.NewInt(1))
	for _, c := range []struct {
		s      api.Share
		digits string
	}{
		{
			api.Share{Field: 1, Threshold: 2, Index: 3},
			"010102030000bbfc8939357c730cbb75ec22a422e7861e0c47f4495eb3d9cb020171816deac7",
		}, {
			api.Share{Field: 2, Threshold: 255, Index: 1, Length: 40, Payload: []api.Element{formOf(2, big.NewInt(258)), formOf(2, big.NewInt(0x0102030405060708))}},
			"0102ff0128000201000000000000000000000000000000000000000000000000000000000000" +
				"0807060504030201000000000000000000000000000000000000000000000000" +
				"682a472cc28a7389b18e552ba6dc7a66c05ceaec2fc5375d253a0376e4aeeedc",
		}, {
			api.Share{Field: 1, Threshold: 1, Index: 255, Length: 31, Payload: []api.Element{formOf(1, minusOne)}},
			"010101ff1f00ecffffffffffffffffffffffffffffffffffffffffffffffffffffffffffff7f" +
				"2645f1a8fa35ba5bb35bbe377b383f56de911dfbda57ae225ccc1dd48572885d",
		},
	} {
		b, _ := hex.DecodeString(c.digits)
		checkEncode(t, c.s, b, api.OK)
		checkDecode(t, b, c.s, api.OK)
	}
}

// P19.1: every length, and numbers that are none.
func TestSize(t *testing.T) {
	for length := range 65536 {
		want := 38 + 32*(length/31)
		if length%31 > 0 {
			want += 32
		}
		if got := record.Size(length); got != want {
			t.Errorf("Size of %d returns %d instead of %d", length, got, want)
		}
	}
	wrong := wrongLengths()
	for n := 1; n < 70000; n++ {
		wrong = append(wrong, -n, 65535+n)
	}
	for _, length := range wrong {
		if got := record.Size(length); got != 0 {
			t.Errorf("Size of %d returns %d", length, got)
		}
	}
}

// P19.2 and P19.3: every threshold and index.
func TestThresholdsAndIndices(t *testing.T) {
	r := rand.New(rand.NewSource(19))
	for _, id := range ids {
		for n := 1; n <= 255; n++ {
			checkShare(t, shareOf(r, id, n, 1+r.Intn(255), 0))
			checkShare(t, shareOf(r, id, 1+r.Intn(255), n, 31))
			checkShare(t, shareOf(r, id, n, n, 32))
		}
	}
}

// P19.2 and P19.3: short, long and longest secrets.
func TestLengths(t *testing.T) {
	r := rand.New(rand.NewSource(20))
	for _, id := range ids {
		for length := range 200 {
			checkShare(t, shareOf(r, id, 2, 3, length))
		}
		for _, length := range lengths() {
			checkShare(t, shareOf(r, id, 254, 255, length))
		}
	}
}

// P19.2 and P19.3: elements and values around powers of two and the modulus, as the
// first, a middle and the last element.
func TestElements(t *testing.T) {
	for _, id := range ids {
		p := modulus(id)
		var numbers []*big.Int
		for bit := range uint(256) {
			numbers = append(numbers, power(bit), new(big.Int).Sub(p, power(bit)), new(big.Int).Sub(power(bit), big.NewInt(1)))
		}
		for i, x := range numbers {
			if x.Sign() < 0 || x.Cmp(p) >= 0 {
				continue
			}
			s := api.Share{Field: id, Threshold: 2, Index: 3, Length: 90, Payload: make([]api.Element, 3)}
			s.Payload[i%3] = elementOf(x)
			checkShare(t, s)
			s.Payload[i%3] = formOf(id, x)
			checkShare(t, s)
		}
	}
}

// P19.2: each error of each wrong part, whatever is wrong in the parts that are
// mentioned later.
func TestEncodeErrors(t *testing.T) {
	r := rand.New(rand.NewSource(21))
	right := func() api.Share { return shareOf(r, api.FieldP256, 4, 9, 40) }
	for s, want := range allFaults(r, shareFaults(), right) {
		checkEncode(t, s, nil, want)
	}
	checkEncode(t, api.Share{}, nil, api.ErrField)
}

// P19.2: numbers that are not less than the modulus, as each element.
func TestEncodeOfGreatElements(t *testing.T) {
	for _, id := range ids {
		for _, x := range notLess(id) {
			for i := range 3 {
				s := api.Share{Field: id, Threshold: 2, Index: 3, Length: 90, Payload: make([]api.Element, 3)}
				s.Payload[i] = elementOf(x)
				checkEncode(t, s, nil, api.ErrCanonical)
			}
		}
	}
}

// notLess returns numbers of 256 bits that are not less than the modulus of a field.
func notLess(id int) []*big.Int {
	p := modulus(id)
	l := []*big.Int{p, new(big.Int).Sub(power(256), big.NewInt(1))}
	for bit := range uint(256) {
		l = append(l, new(big.Int).Add(p, power(bit)), new(big.Int).Or(p, power(bit)), new(big.Int).Sub(power(256), power(bit)))
	}
	return slices.DeleteFunc(l, func(x *big.Int) bool { return x.BitLen() > 256 || x.Cmp(p) < 0 })
}

// P19.3: each error of each wrong part, whatever is wrong in the parts that are
// mentioned later.
func TestDecodeErrors(t *testing.T) {
	r := rand.New(rand.NewSource(22))
	right := func() []byte { return recordOf(shareOf(r, api.FieldP256, 4, 9, 40)) }
	for b, want := range allFaults(r, recordFaults(), right) {
		checkDecode(t, b, api.Share{}, want)
	}
	checkDecode(t, nil, api.Share{}, api.ErrLength)
}

// P19.3: all numbers of bytes from none on, with a right tag and with a wrong one.
func TestAllNumbersOfBytes(t *testing.T) {
	for _, length := range []int{0, 1, 31, 32, 90} {
		for n := range 300 {
			head := headOf(2, 3, 4, length)
			b := slices.Concat(head, make([]byte, 300))[:n]
			checkParsed(t, b)
			if n < 38 {
				checkDecode(t, b, api.Share{}, api.ErrLength)
				continue
			}
			want := api.OK
			if n != 38+32*countOf(length) {
				want = api.ErrLength
			}
			s := api.Share{Field: 2, Threshold: 3, Index: 4, Length: length, Payload: make([]api.Element, countOf(length))}
			if want != api.OK {
				s = api.Share{}
			}
			checkDecode(t, retagged(b), s, want)
		}
	}
}

// P19.3: each byte of a head.
func TestAllHeads(t *testing.T) {
	r := rand.New(rand.NewSource(23))
	for _, id := range ids {
		for _, length := range []int{0, 40} {
			for i := range 6 {
				for c := range 256 {
					b := recordOf(shareOf(r, id, 2, 3, length))
					b[i] = byte(c)
					checkParsed(t, b)
					checkParsed(t, retagged(b))
				}
			}
		}
	}
}

// P19.3: every length, in records of few elements.
func TestAllLengthsOfFewElements(t *testing.T) {
	for n := range 4 {
		elements := make([]byte, 32*n)
		for length := range 65536 {
			b := tagged(headOf(1, 1, 1, length), elements)
			s, want := api.Share{}, api.ErrLength
			if length > 31*(n-1) && length <= 31*n {
				s, want = api.Share{Field: 1, Threshold: 1, Index: 1, Length: length, Payload: make([]api.Element, n)}, api.OK
			}
			checkDecode(t, b, s, want)
		}
	}
}

// P19.3: the lengths of the longest records, and records that would be longer.
func TestLongestRecords(t *testing.T) {
	for n := 2113; n < 2118; n++ {
		for length := 65535 - 70; length <= 65535; length++ {
			s, want := api.Share{}, api.ErrLength
			if countOf(length) == n {
				s, want = api.Share{Field: 2, Threshold: 1, Index: 1, Length: length, Payload: make([]api.Element, n)}, api.OK
			}
			checkDecode(t, tagged(headOf(2, 1, 1, length), make([]byte, 32*n)), s, want)
		}
	}
}

// P19.3: numbers that are not less than the modulus, as each element, with a right tag
// and with a wrong one.
func TestDecodeOfGreatElements(t *testing.T) {
	for _, id := range ids {
		for _, x := range notLess(id) {
			for i := range 3 {
				elements := make([]byte, 3*32)
				copy(elements[32*i:], bytesOf(x))
				b := tagged(headOf(id, 2, 3, 90), elements)
				checkDecode(t, b, api.Share{}, api.ErrCanonical)
				b[len(b)-1] ^= 1
				checkDecode(t, b, api.Share{}, api.ErrCanonical)
			}
		}
	}
}

// P19.3, and the example of the document: each bit of a record, of which no inverted
// one is accepted. With a right tag, the bit yields the record of another share or
// none.
func TestInvertedBits(t *testing.T) {
	r := rand.New(rand.NewSource(24))
	for _, id := range ids {
		for _, length := range []int{0, 31, 60} {
			b := recordOf(shareOf(r, id, 5, 6, length))
			for i := range b {
				for bit := range 8 {
					c := bytes.Clone(b)
					c[i] ^= 1 << bit
					checkParsed(t, c)
					if _, e := record.Decode(c); e == api.OK {
						t.Errorf("%x is accepted, as is %x", c, b)
					}
					checkParsed(t, retagged(c))
				}
			}
		}
	}
}

// P19.3: tags of other bytes than those before.
func TestWrongTags(t *testing.T) {
	r := rand.New(rand.NewSource(25))
	for _, length := range []int{0, 40} {
		b := recordOf(shareOf(r, 1, 2, 3, length))
		n := len(b) - 32
		tags := [][]byte{make([]byte, 32), bytes.Repeat([]byte{255}, 32), tagged(b)[len(b):]}
		for end := range n {
			tags = append(tags, tagged(b[:end])[end:])
			tags = append(tags, tagged(b[end+1 : n])[n-end-1:])
		}
		reversed := bytes.Clone(b[n:])
		slices.Reverse(reversed)
		for _, tag := range append(tags, reversed) {
			checkDecode(t, append(b[:n:n], tag...), api.Share{}, api.ErrTag)
		}
	}
}

// P19.4: all numbers of bytes, whatever the bytes are.
func TestRetag(t *testing.T) {
	r := rand.New(rand.NewSource(26))
	for n := range 300 {
		for range 3 {
			amid := make([]byte, n+4)
			r.Read(amid)
			before := bytes.Clone(amid)
			b := amid[2 : 2+n]
			got, e := record.Retag(b)
			if n < 32 {
				if len(got) != 0 || e != api.ErrLength {
					t.Errorf("Retag of %d bytes returns %x and %v", n, got, e)
				}
			} else if want := retagged(b); !bytes.Equal(got, want) || e != api.OK {
				t.Errorf("Retag of %x returns %x and %v instead of %x", b, got, e, want)
			}
			if !bytes.Equal(amid, before) {
				t.Errorf("Retag has changed bytes")
			}
		}
	}
	if got, e := record.Retag(nil); len(got) != 0 || e != api.ErrLength {
		t.Errorf("Retag of nothing returns %x and %v", got, e)
	}
}

// P19.4: records stay as they are, and those with a wrong tag are accepted again.
func TestRetagOfRecords(t *testing.T) {
	r := rand.New(rand.NewSource(27))
	for _, length := range lengths() {
		for _, id := range ids {
			s := shareOf(r, id, 2, 3, length)
			b := recordOf(s)
			c := bytes.Clone(b)
			for i := len(c) - 32; i < len(c); i++ {
				c[i] = byte(r.Intn(256))
			}
			for _, given := range [][]byte{b, c} {
				got, e := record.Retag(given)
				if !bytes.Equal(got, b) || e != api.OK {
					t.Errorf("Retag of a record of %d bytes returns %x and %v", len(b), got, e)
				}
				checkDecode(t, got, s, api.OK)
			}
		}
	}
}

// The results share no memory with arguments and other results.
func TestResultsAreNewMemory(t *testing.T) {
	r := rand.New(rand.NewSource(28))
	s := shareOf(r, 1, 2, 3, 90)
	b := recordOf(s)
	roomy := append(make([]byte, 0, 1000), b...)
	for _, call := range []func() ([]byte, api.Errno){
		func() ([]byte, api.Errno) { return record.Encode(s) },
		func() ([]byte, api.Errno) { return record.Retag(roomy) },
	} {
		first, _ := call()
		second, _ := call()
		clear(first[:cap(first)])
		if !bytes.Equal(second, b) || !bytes.Equal(roomy, b) {
			t.Errorf("results share memory")
		}
	}
	first, _ := record.Decode(roomy)
	second, _ := record.Decode(roomy)
	clear(first.Payload[:cap(first.Payload)])
	clear(roomy)
	if !sameShare(second, s) {
		t.Errorf("shares share memory")
	}
}

// P19.5: Decode of what Encode returns, for any shares; they may be incorrect.
func TestDecodeInvertsEncode(t *testing.T) {
	r := rand.New(rand.NewSource(29))
	groups := shareFaults()
	accepted := 0
	for range 3000 {
		s := anyShare(r)
		if len(s.Payload) == 2 && r.Intn(2) > 0 {
			anyOf(r, anyOf(r, groups)).put(&s)
		}
		b, e := record.Encode(s)
		if e != api.OK {
			checkEncode(t, s, nil, e)
			continue
		}
		accepted++
		checkDecode(t, b, s, api.OK)
	}
	if accepted < 2000 {
		t.Errorf("only %d shares are accepted", accepted)
	}
}

// P19.5: Decode of bytes that were changed anywhere, with a right tag or a wrong one,
// accepts those that Encode returns for the share.
func TestChangedRecords(t *testing.T) {
	r := rand.New(rand.NewSource(30))
	accepted := 0
	for range 20000 {
		b := recordOf(anyShare(r))
		for range r.Intn(4) {
			i := r.Intn(len(b))
			switch r.Intn(8) {
			case 0:
				b = slices.Delete(b, i, min(len(b), i+1+r.Intn(40)))
			case 1:
				b = slices.Insert(b, i, make([]byte, 1+r.Intn(40))...)
			default:
				b[min(i, r.Intn(40))] = byte(r.Intn(256))
			}
			if len(b) == 0 {
				break
			}
		}
		if len(b) >= 32 && r.Intn(4) > 0 {
			b = retagged(b)
		}
		checkParsed(t, b)
		if _, e := record.Decode(b); e == api.OK {
			accepted++
		}
	}
	if accepted < 1000 || accepted > 19000 {
		t.Errorf("%d strings are accepted", accepted)
	}
}

// The shares of a secret get through their records.
func TestSharesOfSecret(t *testing.T) {
	r := rand.New(rand.NewSource(31))
	for _, id := range ids {
		for _, length := range []int{0, 1, 31, 32, 100} {
			secret, random := make([]byte, length), make([]byte, 64*2*countOf(length))
			r.Read(secret)
			r.Read(random)
			shares, e := deal.Deal(nil, api.Params{Field: id, Threshold: 3, Shares: 5, Length: length}, secret, random)
			if e != api.OK {
				t.Fatal(e)
			}
			for i, s := range shares {
				checkShare(t, s)
				b, _ := record.Encode(s)
				shares[i], _ = record.Decode(b)
			}
			if got, e := join.Combine(nil, shares[2:]); !bytes.Equal(got, secret) || e != api.OK {
				t.Errorf("the secret is %x instead of %x, and the error %v", got, secret, e)
			}
		}
	}
}

// The functions may be called concurrently, for the same arguments and for others.
func TestConcurrentCalls(t *testing.T) {
	r := rand.New(rand.NewSource(32))
	var calls sync.WaitGroup
	for i := range 8 {
		s := shareOf(r, 1+i/2%2, 3, 4+i/2, 300-i/2)
		b := recordOf(s)
		calls.Go(func() {
			for range 200 {
				got, e := record.Encode(s)
				if !bytes.Equal(got, b) || e != api.OK {
					t.Errorf("Encode returns %x and %v instead of %x", got, e, b)
				}
				if got, e := record.Decode(b); !sameShare(got, s) || e != api.OK {
					t.Errorf("Decode returns %+v and %v instead of %+v", got, e, s)
				}
				if got, e := record.Retag(b); !bytes.Equal(got, b) || e != api.OK {
					t.Errorf("Retag returns %x and %v instead of %x", got, e, b)
				}
			}
		})
	}
	calls.Wait()
}
