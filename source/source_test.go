package source_test

import (
	"bytes"
	"math"
	"math/rand"
	"slices"
	"sync"
	"testing"

	"sharecore/api"
	"sharecore/bytecode"
	"sharecore/field"
	"sharecore/mont"
	"sharecore/source"
)

// fields returns both fields.
func fields(t *testing.T) []field.Field {
	t.Helper()
	var l []field.Field
	for _, id := range []int{api.Field25519, api.FieldP256} {
		f, e := field.Get(id)
		if e != api.OK {
			t.Fatalf("Get of %d returns %v", id, e)
		}
		l = append(l, f)
	}
	return l
}

// noise returns n bytes of a kind.
func noise(n int, kind int64) []byte {
	b := make([]byte, n)
	rand.New(rand.NewSource(kind)).Read(b)
	return b
}

// elements returns the elements of all full parts of 64 bytes of b.
func elements(t *testing.T, f field.Field, b []byte) []api.Element {
	t.Helper()
	var l []api.Element
	for ; len(b) >= 64; b = b[64:] {
		x, e := bytecode.Wide(f, b[:64])
		if e != api.OK {
			t.Fatalf("field %d: Wide returns %v", f.ID, e)
		}
		l = append(l, x)
	}
	return l
}

func checkLeft(t *testing.T, s *source.Source, want int) {
	t.Helper()
	for range 2 {
		if got := s.Left(); got != want {
			t.Errorf("%d bytes remain instead of %d", got, want)
		}
	}
}

// checkTake checks one call of Take, and the number of bytes that remain then.
func checkTake(t *testing.T, s *source.Source, n int, want []byte, wantError api.Errno, wantLeft int) {
	t.Helper()
	got, e := s.Take(n)
	if !bytes.Equal(got, want) || e != wantError {
		t.Errorf("Take of %d returns %x and %v instead of %x and %v", n, got, e, want, wantError)
	}
	checkLeft(t, s, wantLeft)
}

// checkElement checks one call of Element, and the number of bytes that remain then.
func checkElement(t *testing.T, s *source.Source, f field.Field, want api.Element, wantError api.Errno, wantLeft int) {
	t.Helper()
	got, e := s.Element(f)
	if got != want || e != wantError {
		t.Errorf("field %d: Element returns %x and %v instead of %x and %v", f.ID, got, e, want, wantError)
	}
	checkLeft(t, s, wantLeft)
}

// checkElements checks one call of Elements, and the number of bytes that remain then.
func checkElements(t *testing.T, s *source.Source, f field.Field, n int, want []api.Element, wantError api.Errno, wantLeft int) {
	t.Helper()
	got, e := s.Elements(f, n)
	if !slices.Equal(got, want) || e != wantError {
		t.Errorf("field %d: Elements of %d returns %x and %v instead of %x and %v", f.ID, n, got, e, want, wantError)
	}
	checkLeft(t, s, wantLeft)
}

// checkRest checks that the bytes of rest are all that remain, and takes them.
func checkRest(t *testing.T, s *source.Source, rest []byte) {
	t.Helper()
	checkLeft(t, s, len(rest))
	checkTake(t, s, len(rest), rest, api.OK, 0)
	checkTake(t, s, 1, nil, api.ErrRandom, 0)
}

// negatives returns negative numbers.
func negatives() []int {
	return []int{-1, -2, -63, -64, -65, -256, -65536, math.MinInt32, -1 << 58, math.MinInt + 1, math.MinInt}
}

// hugeNumbers returns numbers that are more than all lengths, among them those of which the multiple by 64, in 64 bits, is small, or negative.
func hugeNumbers() []int {
	l := []int{1 << 16, math.MaxInt32, 1 << 32, 1<<32 + 1, math.MaxInt - 63, math.MaxInt - 1, math.MaxInt}
	for bit := 56; bit < 63; bit++ {
		for d := -2; d <= 2; d++ {
			l = append(l, 1<<bit+d)
		}
	}
	return l
}

// The example of the chapter; the last byte remains.
func TestExample(t *testing.T) {
	s := source.New([]byte{1, 2, 3})
	checkTake(t, s, 2, []byte{1, 2}, api.OK, 1)
	checkTake(t, s, 2, nil, api.ErrRandom, 1)
	checkRest(t, s, []byte{3})
}

// P14.1: all bytes remain in a new source, and none but them.
func TestNew(t *testing.T) {
	for n := range 300 {
		b := noise(n, 1)
		amid := slices.Concat([]byte{1, 255}, b, []byte{255, 1})
		before := bytes.Clone(amid)
		s := source.New(amid[2 : 2+n])
		if s == nil {
			t.Fatalf("New of %d bytes returns nil", n)
		}
		checkRest(t, s, b)
		if !bytes.Equal(amid, before) {
			t.Errorf("bytes around or of %d ones have changed", n)
		}
	}
	checkRest(t, source.New(nil), nil)
	checkRest(t, source.New([]byte{}), nil)
}

// P14.1: many bytes.
func TestNewOfManyBytes(t *testing.T) {
	b := noise(3<<20+5, 2)
	s := source.New(b)
	checkTake(t, s, 1<<20, b[:1<<20], api.OK, 2<<20+5)
	checkRest(t, s, b[1<<20:])
}

// P14.1: the bytes of the argument may be modified after the call, at any time.
func TestNewCopies(t *testing.T) {
	for _, f := range fields(t) {
		b := noise(200, 3)
		right := bytes.Clone(b)
		s := source.New(b)
		clear(b[:80])
		checkTake(t, s, 10, right[:10], api.OK, 190)
		clear(b)
		checkElement(t, s, f, elements(t, f, right[10:])[0], api.OK, 126)
		copy(b, bytes.Repeat([]byte{7}, len(b)))
		checkRest(t, s, right[74:])
		if !bytes.Equal(b, bytes.Repeat([]byte{7}, len(b))) {
			t.Errorf("field %d: the argument has changed", f.ID)
		}
	}
}

// P14.1 and P2: sources of the same bytes are independent of each other.
func TestSourcesAreIndependent(t *testing.T) {
	b := noise(150, 4)
	s, u := source.New(b), source.New(b)
	checkTake(t, s, 100, b[:100], api.OK, 50)
	checkLeft(t, u, 150)
	got, _ := u.Take(120)
	clear(got[:cap(got)])
	checkRest(t, s, b[100:])
	checkRest(t, u, b[120:])
}

// P14.2: every number of bytes that remain, and further ones.
func TestTake(t *testing.T) {
	for left := range 100 {
		b := noise(left, 5)
		for n := range left + 1 {
			s := source.New(b)
			checkTake(t, s, n, b[:n], api.OK, left-n)
			checkRest(t, s, b[n:])
		}
		for n := left + 1; n < left+70; n++ {
			s := source.New(b)
			checkTake(t, s, n, nil, api.ErrRandom, left)
			checkRest(t, s, b)
		}
	}
}

// P14.2 and P14.4: errors of any number of bytes, after some were taken.
func TestTakeErrors(t *testing.T) {
	for _, left := range []int{0, 1, 2, 63, 64, 65, 200} {
		b := noise(10+left, 6)
		s := source.New(b)
		checkTake(t, s, 10, b[:10], api.OK, left)
		for _, n := range negatives() {
			checkTake(t, s, n, nil, api.ErrArg, left)
		}
		for _, n := range hugeNumbers() {
			checkTake(t, s, n, nil, api.ErrRandom, left)
		}
		checkTake(t, s, 0, nil, api.OK, left)
		checkRest(t, s, b[10:])
	}
}

// P14.2: results share no memory with the source or with each other, also beyond their lengths.
func TestTakenBytesAreNewMemory(t *testing.T) {
	b := noise(300, 7)
	s := source.New(b)
	first, _ := s.Take(100)
	second, _ := s.Take(100)
	clear(first[:cap(first)])
	if !bytes.Equal(second, b[100:200]) {
		t.Errorf("results share memory")
	}
	clear(second[:cap(second)])
	third, _ := s.Take(0)
	clear(third[:cap(third)])
	checkRest(t, s, b[200:])
	if !bytes.Equal(b, noise(300, 7)) {
		t.Errorf("results share memory with the argument of New")
	}
}

// P14.3: each element of the bytes of Wide, from every position on.
func TestElement(t *testing.T) {
	for _, f := range fields(t) {
		b := noise(500, 8)
		for start := range 70 {
			s := source.New(b)
			checkTake(t, s, start, b[:start], api.OK, len(b)-start)
			left := len(b) - start
			for _, want := range elements(t, f, b[start:]) {
				left -= 64
				checkElement(t, s, f, want, api.OK, left)
			}
			checkElement(t, s, f, api.Element{}, api.ErrRandom, left)
			checkRest(t, s, b[len(b)-left:])
		}
	}
}

// P14.3: elements that are known without package bytecode.
func TestKnownElements(t *testing.T) {
	for _, f := range fields(t) {
		modulus := make([]byte, 64)
		for i := range 32 {
			modulus[i] = byte(f.Modulus[i/8] >> (i % 8 * 8))
		}
		small, high := make([]byte, 64), make([]byte, 64)
		small[0], small[1] = 2, 1
		high[32] = 1
		s := source.New(slices.Concat(small, make([]byte, 64), modulus, high))
		want := []api.Element{mont.To(f, api.Vec{258}), {}, {}, mont.To(f, api.Vec(f.One))}
		checkElements(t, s, f, 4, want, api.OK, 0)
	}
}

// P14.3 and P14.4: all numbers of bytes that are too few for an element.
func TestElementOfFewBytes(t *testing.T) {
	for _, f := range fields(t) {
		for left := range 64 {
			b := noise(left, 9)
			s := source.New(b)
			for range 2 {
				checkElement(t, s, f, api.Element{}, api.ErrRandom, left)
			}
			checkRest(t, s, b)
		}
	}
}

// P14.3: the elements of a source may be of different fields.
func TestElementsOfBothFields(t *testing.T) {
	l := fields(t)
	b := noise(256, 10)
	s := source.New(b)
	checkElement(t, s, l[0], elements(t, l[0], b)[0], api.OK, 192)
	checkElements(t, s, l[1], 2, elements(t, l[1], b)[1:3], api.OK, 64)
	checkElement(t, s, l[0], elements(t, l[0], b)[3], api.OK, 0)
}

// P14.3 and P14.4: every number of elements, also too many, and every number of bytes that remain.
func TestElements(t *testing.T) {
	for _, f := range fields(t) {
		for left := range 330 {
			b := noise(left, 11)
			all := elements(t, f, b)
			for n := range 8 {
				s := source.New(b)
				if n > len(all) {
					checkElements(t, s, f, n, nil, api.ErrRandom, left)
					checkRest(t, s, b)
					continue
				}
				checkElements(t, s, f, n, all[:n], api.OK, left-64*n)
				checkRest(t, s, b[64*n:])
			}
		}
	}
}

// P14.3: many elements.
func TestManyElements(t *testing.T) {
	for _, f := range fields(t) {
		b := noise(64*20000+63, 12)
		s := source.New(b)
		checkElements(t, s, f, 20001, nil, api.ErrRandom, len(b))
		checkElements(t, s, f, 20000, elements(t, f, b), api.OK, 63)
	}
}

// P14.3 and P14.4: errors of any number of elements, after some bytes were taken.
func TestElementsErrors(t *testing.T) {
	for _, f := range fields(t) {
		for _, left := range []int{0, 1, 63, 64, 65, 127, 128, 200} {
			b := noise(10+left, 13)
			s := source.New(b)
			checkTake(t, s, 10, b[:10], api.OK, left)
			for _, n := range negatives() {
				checkElements(t, s, f, n, nil, api.ErrArg, left)
			}
			for _, n := range hugeNumbers() {
				checkElements(t, s, f, n, nil, api.ErrRandom, left)
			}
			checkElements(t, s, f, 0, nil, api.OK, left)
			checkRest(t, s, b[10:])
		}
	}
}

// Results of Elements share no memory with each other.
func TestElementsAreNewMemory(t *testing.T) {
	for _, f := range fields(t) {
		b := noise(64*6, 14)
		all := elements(t, f, b)
		s := source.New(b)
		first, _ := s.Elements(f, 2)
		second, _ := s.Elements(f, 2)
		clear(first[:cap(first)])
		if !slices.Equal(second, all[2:4]) {
			t.Errorf("field %d: results share memory", f.ID)
		}
		clear(second[:cap(second)])
		checkElements(t, s, f, 2, all[4:], api.OK, 0)
	}
}

// P14.5: Elements of a sum, of the numbers one after the other, and Element as often.
func TestElementsInParts(t *testing.T) {
	for _, f := range fields(t) {
		b := noise(64*12+5, 15)
		for n := range 6 {
			for m := range 6 {
				whole, parts, single := source.New(b), source.New(b), source.New(b)
				sum, _ := whole.Elements(f, n+m)
				if len(sum) != n+m {
					t.Fatalf("field %d: %d elements instead of %d", f.ID, len(sum), n+m)
				}
				checkElements(t, parts, f, n, sum[:n], api.OK, len(b)-64*n)
				checkElements(t, parts, f, m, sum[n:], api.OK, len(b)-64*(n+m))
				for i, want := range sum {
					checkElement(t, single, f, want, api.OK, len(b)-64*(i+1))
				}
				for _, s := range []*source.Source{whole, parts, single} {
					checkRest(t, s, b[64*(n+m):])
				}
			}
		}
	}
}

// P14.4 and P14.5: calls in any order take the bytes from the first one on, and none when they fail.
func TestCallsInAnyOrder(t *testing.T) {
	r := rand.New(rand.NewSource(16))
	l := fields(t)
	for range 500 {
		rest := noise(r.Intn(1500), r.Int63())
		s := source.New(rest)
		for range 60 {
			rest = checkAnyCall(t, r, s, l[r.Intn(len(l))], rest)
		}
		checkRest(t, s, rest)
	}
}

// checkAnyCall checks one call for a source of which the bytes of rest remain, and returns those that remain after it.
func checkAnyCall(t *testing.T, r *rand.Rand, s *source.Source, f field.Field, rest []byte) []byte {
	t.Helper()
	n := r.Intn(6) - 1
	all := elements(t, f, rest)
	switch kind := r.Intn(3); {
	case kind == 0 && len(all) == 0:
		checkElement(t, s, f, api.Element{}, api.ErrRandom, len(rest))
	case kind == 0:
		checkElement(t, s, f, all[0], api.OK, len(rest)-64)
		return rest[64:]
	case kind == 1 && n < 0:
		checkElements(t, s, f, n, nil, api.ErrArg, len(rest))
	case kind == 1 && n > len(all):
		checkElements(t, s, f, n, nil, api.ErrRandom, len(rest))
	case kind == 1:
		checkElements(t, s, f, n, all[:n], api.OK, len(rest)-64*n)
		return rest[64*n:]
	case n < 0:
		checkTake(t, s, n, nil, api.ErrArg, len(rest))
	case 10*n > len(rest):
		checkTake(t, s, 10*n, nil, api.ErrRandom, len(rest))
	default:
		checkTake(t, s, 10*n, rest[:10*n], api.OK, len(rest)-10*n)
		return rest[10*n:]
	}
	return rest
}

// For a nil source, ErrNil precedes all other errors.
func TestNilSource(t *testing.T) {
	var s *source.Source
	for _, f := range append(fields(t), field.Field{}) {
		for _, n := range slices.Concat([]int{0, 1, 2, 64}, negatives(), hugeNumbers()) {
			checkTake(t, s, n, nil, api.ErrNil, 0)
			checkElements(t, s, f, n, nil, api.ErrNil, 0)
		}
		checkElement(t, s, f, api.Element{}, api.ErrNil, 0)
	}
}

// The functions may be called concurrently, for sources of the same bytes too.
func TestConcurrentCalls(t *testing.T) {
	b := noise(2000, 17)
	var calls sync.WaitGroup
	for _, f := range fields(t) {
		all := elements(t, f, b)
		for range 8 {
			calls.Go(func() {
				for range 20 {
					s := source.New(b)
					checkElements(t, s, f, 3, all[:3], api.OK, len(b)-3*64)
					checkElement(t, s, f, all[3], api.OK, len(b)-4*64)
					checkRest(t, s, b[4*64:])
				}
			})
		}
	}
	calls.Wait()
}
