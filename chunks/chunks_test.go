package chunks_test

import (
	"bytes"
	"encoding/binary"
	"math"
	"math/big"
	"math/rand"
	"slices"
	"sync"
	"testing"

	"sharecore/api"
	"sharecore/chunks"
	"sharecore/field"
)

// arithmetic is a field with its modulus, by which the tests compute in it.
type arithmetic struct {
	field.Field
	p *big.Int
}

// fields returns both fields; their moduli are those that the document writes.
func fields(t *testing.T) []arithmetic {
	t.Helper()
	return []arithmetic{
		arithmeticOf(t, api.Field25519, "7fffffffffffffffffffffffffffffffffffffffffffffffffffffffffffffed"),
		arithmeticOf(t, api.FieldP256, "ffffffff00000000ffffffffffffffffbce6faada7179e84f3b9cac2fc632551"),
	}
}

func arithmeticOf(t *testing.T, id int, modulus string) arithmetic {
	t.Helper()
	f, e := field.Get(id)
	if e != api.OK {
		t.Fatalf("Get of %d returns %v", id, e)
	}
	p, _ := new(big.Int).SetString(modulus, 16)
	return arithmetic{f, p}
}

// element returns the element whose value is x modulo p, by the definition of
// Montgomery forms.
func (f arithmetic) element(x *big.Int) api.Element {
	form := new(big.Int).Lsh(x, 256)
	b := form.Mod(form, f.p).FillBytes(make([]byte, 32))
	var e api.Element
	for i := range e {
		e[i] = binary.BigEndian.Uint64(b[8*(len(e)-1-i):])
	}
	return e
}

// elements returns the elements of the chunks of a secret.
func (f arithmetic) elements(secret []byte) []api.Element {
	var l []api.Element
	for chunk := range slices.Chunk(secret, 31) {
		l = append(l, f.element(numberOf(chunk)))
	}
	return l
}

// numberOf returns the number that bytes represent.
func numberOf(b []byte) *big.Int {
	b = bytes.Clone(b)
	slices.Reverse(b)
	return new(big.Int).SetBytes(b)
}

func power(n int) *big.Int { return new(big.Int).Lsh(big.NewInt(1), uint(n)) }

// chunkLen returns the length of the chunk with the index i of a secret.
func chunkLen(length, i int) int { return min(31, length-31*i) }

func randomBytes(r *rand.Rand, n int) []byte {
	b := make([]byte, n)
	r.Read(b)
	return b
}

// lengths returns lengths of secrets: all that have few chunks, and those of the
// longest secrets that have a chunk more than the length before, or nearly so.
func lengths() []int {
	var l []int
	for n := range 200 {
		l = append(l, n)
	}
	l = append(l, 255, 256, 257, 1023, 1024, 4096, 32767, 32768)
	for n := api.MaxSecret - 35; n <= api.MaxSecret; n++ {
		l = append(l, n)
	}
	return l
}

// secrets returns secrets of length bytes: those of equal bytes, which end by zeros
// or not, and others, no two chunks of which are equal.
func secrets(r *rand.Rand, length int) [][]byte {
	return [][]byte{
		make([]byte, length),
		bytes.Repeat([]byte{255}, length),
		randomBytes(r, length),
		slices.Concat(randomBytes(r, length/2), make([]byte, length-length/2)),
	}
}

// wrongLengths returns numbers of bytes that no secret has.
func wrongLengths() []int {
	return []int{
		math.MinInt, math.MinInt + 1, math.MinInt32, -65536, -62, -32, -31, -30, -1,
		65536, 65537, 65566, 65567, 1 << 20, math.MaxInt32, math.MaxInt - 30, math.MaxInt - 1, math.MaxInt,
	}
}

// checkSplit checks Split of one secret, which stands amid other bytes.
func (f arithmetic) checkSplit(t *testing.T, secret []byte, want []api.Element, wantError api.Errno) {
	t.Helper()
	amid := slices.Concat([]byte{1, 255}, secret, []byte{255, 1})
	before := bytes.Clone(amid)
	got, e := chunks.Split(f.Field, amid[2:len(amid)-2])
	if !slices.Equal(got, want) || e != wantError {
		t.Errorf("field %d: Split of %d bytes returns %d elements and %v instead of %d and %v, or other ones", f.ID, len(secret), len(got), e, len(want), wantError)
	}
	if !bytes.Equal(amid, before) {
		t.Errorf("field %d: Split of %d bytes has changed bytes", f.ID, len(secret))
	}
}

// checkJoin checks Join of one list, which stands amid other elements.
func (f arithmetic) checkJoin(t *testing.T, l []api.Element, length int, want []byte, wantError api.Errno) {
	t.Helper()
	other := []api.Element{f.One, {1, 2, 3, 4}}
	amid := slices.Concat(other, l, other)
	before := slices.Clone(amid)
	got, e := chunks.Join(f.Field, amid[2:len(amid)-2], length)
	if !bytes.Equal(got, want) || e != wantError {
		t.Errorf("field %d: Join of %d elements and %d bytes returns %d bytes and %v instead of %d and %v, or other ones", f.ID, len(l), length, len(got), e, len(want), wantError)
	}
	if !slices.Equal(amid, before) {
		t.Errorf("field %d: Join of %d elements has changed elements", f.ID, len(l))
	}
}

// The examples of the chapter, and that of the document for two chunks.
func TestExamples(t *testing.T) {
	for length, want := range map[int]int{0: 0, 1: 1, 31: 1, 32: 2} {
		if got := chunks.Count(length); got != want {
			t.Errorf("a secret of %d bytes has %d chunks", length, got)
		}
	}
	for _, f := range fields(t) {
		secret := append(make([]byte, 31), 7)
		f.checkSplit(t, secret, []api.Element{{}, f.element(big.NewInt(7))}, api.OK)
	}
}

// P13.1: every length of a secret.
func TestCount(t *testing.T) {
	for length := range api.MaxSecret + 1 {
		want := length / 31
		if length%31 != 0 {
			want++
		}
		if got := chunks.Count(length); got != want {
			t.Errorf("a secret of %d bytes has %d chunks instead of %d", length, got, want)
		}
	}
}

// P13.1
func TestCountOfWrongLengths(t *testing.T) {
	for _, length := range wrongLengths() {
		if got := chunks.Count(length); got != 0 {
			t.Errorf("Count of %d returns %d", length, got)
		}
	}
}

// P13.2, P13.3 and P13.4: Join inverts Split.
func TestSplitAndJoin(t *testing.T) {
	r := rand.New(rand.NewSource(13))
	for _, f := range fields(t) {
		for _, length := range lengths() {
			for _, secret := range secrets(r, length) {
				l := f.elements(secret)
				f.checkSplit(t, secret, l, api.OK)
				f.checkJoin(t, l, length, secret, api.OK)
			}
		}
	}
}

// P13.2 and P13.3: every byte of a secret counts, at its own place.
func TestOneByte(t *testing.T) {
	for _, f := range fields(t) {
		for _, length := range []int{1, 31, 32, 62, 95} {
			for i := range length {
				for _, c := range []byte{1, 128, 255} {
					secret := make([]byte, length)
					secret[i] = c
					l := make([]api.Element, chunks.Count(length))
					x := new(big.Int).Mul(big.NewInt(int64(c)), power(8*(i%31)))
					l[i/31] = f.element(x)
					f.checkSplit(t, secret, l, api.OK)
					f.checkJoin(t, l, length, secret, api.OK)
				}
			}
		}
	}
}

// An empty secret may be nil, and an empty list too.
func TestNothing(t *testing.T) {
	for _, f := range fields(t) {
		if l, e := chunks.Split(f.Field, nil); len(l) != 0 || e != api.OK {
			t.Errorf("field %d: Split of nil returns %v and %v", f.ID, l, e)
		}
		if b, e := chunks.Join(f.Field, nil, 0); len(b) != 0 || e != api.OK {
			t.Errorf("field %d: Join of nil returns %v and %v", f.ID, b, e)
		}
		if b, e := chunks.Join(f.Field, nil, 1); len(b) != 0 || e != api.ErrLength {
			t.Errorf("field %d: Join of nil and 1 returns %v and %v", f.ID, b, e)
		}
	}
}

// P13.2
func TestSplitOfLongSecrets(t *testing.T) {
	for _, f := range fields(t) {
		for _, length := range []int{65536, 65537, 65565, 65566, 65567, 131071, 131072, 1 << 20} {
			f.checkSplit(t, make([]byte, length), nil, api.ErrSecret)
			f.checkSplit(t, bytes.Repeat([]byte{255}, length), nil, api.ErrSecret)
		}
	}
}

// P13.3: a wrong length is reported first, also with a wrong padding and with
// whatever number of elements.
func TestJoinOfWrongLengths(t *testing.T) {
	for _, f := range fields(t) {
		wrong := f.element(big.NewInt(-1))
		for _, length := range wrongLengths() {
			for _, n := range []int{0, 1, 2, 2114, 2115, 2116} {
				f.checkJoin(t, make([]api.Element, n), length, nil, api.ErrSecret)
				f.checkJoin(t, slices.Repeat([]api.Element{wrong}, n), length, nil, api.ErrSecret)
			}
		}
	}
}

// P13.3: a wrong number of elements is reported before a wrong padding.
func TestJoinOfWrongCounts(t *testing.T) {
	for _, f := range fields(t) {
		wrong := f.element(big.NewInt(-1))
		for _, length := range lengths() {
			count := (length + 30) / 31
			for _, n := range []int{0, 1, 2, count - 2, count - 1, count + 1, count + 2, 2*count + 1, 2115, 2116} {
				if n < 0 || n == count {
					continue
				}
				f.checkJoin(t, make([]api.Element, n), length, nil, api.ErrLength)
				f.checkJoin(t, slices.Repeat([]api.Element{wrong}, n), length, nil, api.ErrLength)
			}
		}
	}
}

// P13.3: the least and the greatest value that is none of a string with as many bytes
// as the chunk, and those of one further bit, for each element of a list.
func TestJoinOfWrongPaddings(t *testing.T) {
	r := rand.New(rand.NewSource(14))
	for _, f := range fields(t) {
		for _, length := range []int{1, 2, 15, 30, 31, 32, 61, 62, 63, 92, 93, 94} {
			secret := randomBytes(r, length)
			for i := range chunks.Count(length) {
				n := chunkLen(length, i)
				chunk := numberOf(secret[31*i : 31*i+n])
				values := []*big.Int{new(big.Int).Sub(f.p, big.NewInt(1))}
				for bit := 8 * n; bit < f.p.BitLen(); bit++ {
					values = append(values, power(bit), new(big.Int).Add(chunk, power(bit)))
				}
				for _, x := range values {
					l := f.elements(secret)
					l[i] = f.element(x)
					f.checkJoin(t, l, length, nil, api.ErrPadding)
				}
			}
		}
	}
}

// P13.3: the greatest value of each chunk that is one of a string with as many bytes.
func TestJoinOfGreatestValues(t *testing.T) {
	for _, f := range fields(t) {
		for length := range 100 {
			var l []api.Element
			for i := range chunks.Count(length) {
				greatest := new(big.Int).Sub(power(8*chunkLen(length, i)), big.NewInt(1))
				l = append(l, f.element(greatest))
			}
			f.checkJoin(t, l, length, bytes.Repeat([]byte{255}, length), api.OK)
		}
	}
}

// P13.3: one wrong padding among those of the most elements, and all of them wrong.
func TestJoinOfWrongPaddingsInLongLists(t *testing.T) {
	r := rand.New(rand.NewSource(15))
	for _, f := range fields(t) {
		right := f.elements(randomBytes(r, api.MaxSecret))
		for _, i := range []int{0, 1, 1000, len(right) - 2, len(right) - 1} {
			l := slices.Clone(right)
			l[i] = f.element(power(248))
			f.checkJoin(t, l, api.MaxSecret, nil, api.ErrPadding)
		}
		wrong := slices.Repeat([]api.Element{f.element(power(248))}, len(right))
		f.checkJoin(t, wrong, api.MaxSecret, nil, api.ErrPadding)
	}
}

// P13.3: a secret that has fewer bytes than the elements tell is no other's beginning.
func TestJoinOfOtherLengths(t *testing.T) {
	for _, f := range fields(t) {
		secret := bytes.Repeat([]byte{3}, 50)
		l := f.elements(secret)
		for length := 32; length <= 62; length++ {
			want, wantError := append(bytes.Clone(secret), make([]byte, 12)...)[:length], api.OK
			if length < len(secret) {
				want, wantError = nil, api.ErrPadding
			}
			f.checkJoin(t, l, length, want, wantError)
		}
	}
}

// P13.4: whatever the elements are that Join accepts, Split returns them.
func TestSplitInvertsJoin(t *testing.T) {
	r := rand.New(rand.NewSource(16))
	for _, f := range fields(t) {
		accepted := 0
		for range 5000 {
			length := r.Intn(100)
			l := make([]api.Element, chunks.Count(length))
			for i := range l {
				bits := 8*chunkLen(length, i) - 1 + r.Intn(3)
				l[i] = f.element(new(big.Int).Rand(r, power(bits)))
			}
			secret, e := chunks.Join(f.Field, l, length)
			if e != api.OK {
				continue
			}
			accepted++
			f.checkSplit(t, secret, l, api.OK)
		}
		if accepted < 1000 || accepted == 5000 {
			t.Errorf("field %d: Join accepts %d of 5000 lists", f.ID, accepted)
		}
	}
}

// Results share no memory with arguments and with other results.
func TestResultsAreNewMemory(t *testing.T) {
	for _, f := range fields(t) {
		secret := bytes.Repeat([]byte{5}, 40)
		l := f.elements(secret)
		first, _ := chunks.Split(f.Field, secret)
		second, _ := chunks.Split(f.Field, secret)
		clear(first[:cap(first)])
		if !slices.Equal(second, l) {
			t.Errorf("field %d: results of Split share memory", f.ID)
		}
		one, _ := chunks.Join(f.Field, l, len(secret))
		two, _ := chunks.Join(f.Field, l, len(secret))
		clear(one[:cap(one)])
		f.checkJoin(t, l, len(secret), secret, api.OK)
		if !bytes.Equal(two, secret) {
			t.Errorf("field %d: results of Join share memory", f.ID)
		}
	}
}

// The functions may be called concurrently.
func TestConcurrentCalls(t *testing.T) {
	var calls sync.WaitGroup
	for _, f := range fields(t) {
		for i := range 8 {
			calls.Go(func() {
				secret := randomBytes(rand.New(rand.NewSource(int64(i))), 300+i)
				l := f.elements(secret)
				for range 20 {
					f.checkSplit(t, secret, l, api.OK)
					f.checkJoin(t, l, len(secret), secret, api.OK)
					f.checkJoin(t, l, 20, nil, api.ErrLength)
				}
			})
		}
	}
	calls.Wait()
}
