package sha_test

import (
	"bytes"
	"crypto/sha256"
	"encoding/hex"
	"math/rand"
	"strings"
	"sync"
	"testing"

	"sharecore/sha"
)

// noise returns n bytes of a kind.
func noise(n int, kind int64) []byte {
	b := make([]byte, n)
	rand.New(rand.NewSource(kind<<32 | int64(n))).Read(b)
	return b
}

// written returns a hash to which parts were written.
func written(parts ...[]byte) *sha.Hash {
	h := sha.New()
	for _, p := range parts {
		h.Write(p)
	}
	return h
}

// check reports a hash whose length or sum is not that of b. It asks for both twice, as Len and Sum do not change the hash.
func check(t *testing.T, h *sha.Hash, b []byte, what ...any) {
	t.Helper()
	want := sha256.Sum256(b)
	for range 2 {
		if got := h.Len(); got != len(b) {
			t.Errorf("%v: length %d of %d bytes", what, got, len(b))
		}
		if got := h.Sum(); got != want {
			t.Errorf("%v: sum %x of %d bytes", what, got, len(b))
		}
	}
}

// P12.1: the examples of the chapter, and those that were published with the function.
func TestExamples(t *testing.T) {
	if sha.Size != 32 {
		t.Errorf("size %d", sha.Size)
	}
	for s, want := range map[string]string{
		"":    "e3b0c44298fc1c149afbf4c8996fb92427ae41e4649b934ca495991b7852b855",
		"abc": "ba7816bf8f01cfea414140de5dae2223b00361a396177a9cb410ff61f20015ad",
		"abcdbcdecdefdefgefghfghighijhijkijkljklmklmnlmnomnopnopq":                                                         "248d6a61d20638b8e5c026930c3e6039a33ce45964ff2167f6ecedd419db06c1",
		"abcdefghbcdefghicdefghijdefghijkefghijklfghijklmghijklmnhijklmnoijklmnopjklmnopqklmnopqrlmnopqrsmnopqrstnopqrstu": "cf5b16a778af8380036ce59e7b0492370b249b11e8f07a51afac45037afee9d1",
		strings.Repeat("a", 1000000):                  "cdc76e5c9914fb9281a1c7e284d73e67f1809a48a497200e046d39ccc7112cd0",
		"\xbd":                                        "68325720aabd7c82f30f554b313d0570c95accbb7dc4b5aae11204c08ffe732b",
		"\xc9\x8c\x8e\x55":                            "7abc22c0ae5af26ce93dbb94433a0e0b2e119d014f8e7f65bd56c61ccccd9504",
		strings.Repeat("\x00", 55):                    "02779466cdec163811d078815c633f21901413081449002f24aa3e80f0b88ef7",
		strings.Repeat("\x00", 56):                    "d4817aa5497628e7c77e6b606107042bbba3130888c5f47a375e6179be789fbb",
		strings.Repeat("\x00", 57):                    "65a16cb7861335d5ace3c60718b5052e44660726da4cd13bb745381b235a1785",
		strings.Repeat("\x00", 64):                    "f5a5fd42d16a20302798ef6ed309979b43003d2320d9f0e8ea9831a92759fb4b",
		strings.Repeat("\x00", 1000):                  "541b3e9daa09b20bf85fa273e5cbd3e80185aa4ec298e765db87742b70138a53",
		strings.Repeat("A", 1000):                     "c2e686823489ced2017f6059b8b239318b6364f6dcd835d0a519105a1eadd6e4",
		strings.Repeat("U", 1005):                     "f4d62ddec0f3dd90ea1380fa16a5ff8dc4c54b21740650f24afc4120903552b0",
		"The quick brown fox jumps over the lazy dog": "d7a8fbb307d7809469ca9abcb0082e4f8d5651e46d3cdb762d02d0bf37c9e592",
	} {
		if got := sha.Sum([]byte(s)); hex.EncodeToString(got[:]) != want {
			t.Errorf("%.20q (%d bytes): %x", s, len(s), got)
		}
	}
	if got := sha.Sum(nil); got != sha.Sum([]byte{}) || got != plain(nil) {
		t.Errorf("nil: %x", got)
	}
}

// P12.1: every length of up to five blocks, with bytes of several kinds.
func TestLengths(t *testing.T) {
	for n := range 5*64 + 1 {
		for _, b := range [][]byte{
			noise(n, 1),
			bytes.Repeat([]byte{0}, n),
			bytes.Repeat([]byte{128}, n),
			bytes.Repeat([]byte{255}, n),
		} {
			if got := sha.Sum(b); got != plain(b) {
				t.Errorf("%d bytes: %x", n, got)
			}
		}
	}
}

// P12.1: every bit of every byte counts, in every block.
func TestBits(t *testing.T) {
	b := make([]byte, 3*64)
	for i := range b {
		for bit := range 8 {
			b[i] = 1 << bit
			if got := sha.Sum(b); got != plain(b) {
				t.Errorf("bit %d of byte %d: %x", bit, i, got)
			}
		}
		b[i] = 0
	}
}

// P12.1: many blocks of random bytes, in which sums of words have carries of all kinds.
func TestNoise(t *testing.T) {
	for kind := range int64(50) {
		if b := noise(5000, kind); sha.Sum(b) != plain(b) {
			t.Error(kind)
		}
	}
}

// P12.1: the lengths around those whose number of bits needs another byte.
func TestLong(t *testing.T) {
	for _, n := range []int{1 << 5, 1 << 13, 1 << 21} {
		for _, n := range []int{n - 1, n, n + 1} {
			if b := noise(n, 2); sha.Sum(b) != sha256.Sum256(b) {
				t.Errorf("%d bytes", n)
			}
		}
	}
}

// P12.1 and P12.2: the number of bits of 2^29 bytes needs five bytes. They are written in parts, so that they need little memory.
func TestLongest(t *testing.T) {
	t.Parallel()
	part := noise(1<<20, 3)
	h, want := sha.New(), sha256.New()
	for range 1 << 9 {
		h.Write(part)
		want.Write(part)
	}
	if got := h.Sum(); h.Len() != 1<<29 || !bytes.Equal(got[:], want.Sum(nil)) {
		t.Errorf("length %d, sum %x", h.Len(), got)
	}
}

// P12.2: New returns a hash of no bytes, also when others have bytes, and writing none changes nothing.
func TestNew(t *testing.T) {
	written(noise(100, 4))
	h := sha.New()
	check(t, h, nil, "new")
	h.Write(nil)
	h.Write([]byte{})
	check(t, h, nil, "nothing written")
	b := noise(70, 4)
	check(t, written(nil, b, nil, []byte{}), b, "nothing written around bytes")
}

// P12.2: Sum and Len tell about the bytes written so far, and change nothing, at each number of bytes.
func TestSoFar(t *testing.T) {
	b := noise(300, 5)
	h := sha.New()
	for i := range b {
		check(t, h, b[:i], "before byte", i)
		h.Write(b[i : i+1])
	}
	check(t, h, b, "at the end")
}

// P12.2: the bytes of an argument are copied: they may be modified after the call.
func TestCopied(t *testing.T) {
	for _, n := range []int{1, 3, 63, 64, 65, 127, 128, 200} {
		b := noise(n, 6)
		h := sha.New()
		for from := 0; from < n; from += 50 {
			part := bytes.Clone(b[from:min(from+50, n)])
			h.Write(part)
			clear(part)
		}
		check(t, h, b, "cleared parts of", n)
		whole := bytes.Clone(b)
		h = written(whole)
		clear(whole)
		check(t, h, b, "cleared", n)
	}
}

// Rules, 4: arguments are not modified, and nothing is read or written beyond their length.
func TestArguments(t *testing.T) {
	for n := range 200 {
		whole := noise(300, 7)
		b := whole[:n]
		want := plain(b)
		if sha.Sum(b) != want || written(b).Sum() != want {
			t.Errorf("%d bytes of more", n)
		}
		if !bytes.Equal(whole, noise(300, 7)) {
			t.Fatalf("%d bytes: the argument changed", n)
		}
	}
}

// P12.2: a sum is a value of its own.
func TestSumsAreValues(t *testing.T) {
	b := noise(100, 8)
	h := written(b)
	sum, other := h.Sum(), h.Sum()
	clear(sum[:])
	if other != plain(b) {
		t.Error("two sums share memory")
	}
	check(t, h, b, "cleared sum")
}

// P12.2: a clone has the bytes of its hash, and is independent of it, whatever the numbers of bytes before and after are.
func TestClone(t *testing.T) {
	b, c := noise(400, 9), noise(400, 10)
	for n := range 140 {
		for _, more := range []int{0, 1, 60, 64, 65, 130} {
			h := written(b[:n])
			clone := h.Clone()
			check(t, clone, b[:n], "clone", n)
			clone.Write(c[:more])
			check(t, h, b[:n], "hash of a clone", n, more)
			h.Write(b[n : n+more])
			check(t, clone, append(bytes.Clone(b[:n]), c[:more]...), "clone with more", n, more)
			check(t, h, b[:n+more], "hash with more", n, more)
		}
	}
}

// P12.2: clones of clones, and several clones of one hash, are independent too.
func TestClones(t *testing.T) {
	b := noise(130, 11)
	h := written(b[:70])
	clones := []*sha.Hash{h.Clone(), h.Clone()}
	clones = append(clones, clones[0].Clone(), clones[1].Clone())
	for i, c := range clones {
		c.Write([]byte{byte(i)})
	}
	h.Write(b[70:])
	check(t, h, b, "hash")
	for i, c := range clones {
		check(t, c, append(bytes.Clone(b[:70]), byte(i)), "clone", i)
	}
	if c := sha.New().Clone(); c == nil {
		t.Error("no clone of a new hash")
	} else {
		check(t, c, nil, "clone of a new hash")
	}
}

// P12.3: two parts, divided at every index.
func TestTwoParts(t *testing.T) {
	for _, n := range []int{1, 2, 55, 56, 57, 63, 64, 65, 119, 120, 121, 127, 128, 129, 192, 250} {
		b := noise(n, 12)
		for i := range n + 1 {
			check(t, written(b[:i], b[i:]), b, "divided at", i)
		}
	}
}

// P12.3: three parts, with borders at all pairs of indices.
func TestThreeParts(t *testing.T) {
	b := noise(150, 13)
	want := plain(b)
	for i := range len(b) + 1 {
		for j := i; j <= len(b); j++ {
			if h := written(b[:i], b[i:j], b[j:]); h.Sum() != want || h.Len() != len(b) {
				t.Errorf("divided at %d and %d: %x", i, j, h.Sum())
			}
		}
	}
}

// P12.3: parts of equal sizes, of random sizes, and with sums taken in between.
func TestParts(t *testing.T) {
	b := noise(1000, 14)
	for size := 1; size <= 200; size++ {
		h := sha.New()
		for from := 0; from < len(b); from += size {
			h.Write(b[from:min(from+size, len(b))])
		}
		check(t, h, b, "parts of", size)
	}
	r := rand.New(rand.NewSource(15))
	for i := range 200 {
		h := sha.New()
		for from := 0; from < len(b); {
			n := min(r.Intn(150), len(b)-from)
			h.Write(b[from : from+n])
			from += n
			if r.Intn(3) == 0 {
				check(t, h, b[:from], "random parts so far", i)
			}
		}
		check(t, h, b, "random parts", i)
	}
}

// A nil hash has no bytes, and Write has no effect on it.
func TestNil(t *testing.T) {
	var none *sha.Hash
	for range 2 {
		if none.Len() != 0 || none.Sum() != [sha.Size]byte{} || none.Clone() != nil {
			t.Error("nil hash")
		}
		none.Write(nil)
		none.Write(noise(200, 16))
	}
	check(t, sha.New(), nil, "new beside nil")
}

// P2: hashes that are written to in turn are independent.
func TestIndependent(t *testing.T) {
	b, c := noise(200, 17), noise(200, 18)
	g, h := sha.New(), sha.New()
	for i := range b {
		g.Write(b[i : i+1])
		h.Write(c[i : i+1])
		if i == 100 && (sha.Sum(c) != plain(c) || sha.Sum(b) != plain(b)) {
			t.Error("sums beside hashes")
		}
	}
	check(t, g, b, "first")
	check(t, h, c, "second")
}

// Rules, 6: the functions may be called concurrently.
func TestConcurrent(t *testing.T) {
	var all sync.WaitGroup
	for i := range 8 {
		all.Go(func() {
			b := noise(1000+i, 19)
			for range 20 {
				if sha.Sum(b) != sha256.Sum256(b) {
					t.Error("sum", i)
				}
				check(t, written(b[:i], b[i:]).Clone(), b, "hash", i)
			}
		})
	}
	all.Wait()
}
