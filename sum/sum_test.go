package sum

import (
	"bytes"
	"crypto/sha256"
	"hash/crc32"
	"math/big"
	"math/rand"
	"slices"
	"strings"
	"testing"
)

func someBytes(r *rand.Rand, n int) []byte {
	b := make([]byte, n)
	r.Read(b)
	return b
}

// crcByTheWords: B1 bit by bit, as chapter 2 says it.
func crcByTheWords(b []byte) uint32 {
	n := uint32(0xffffffff)
	for _, c := range b {
		n ^= uint32(c)
		for i := 0; i < 8; i++ {
			out := n % 2
			n /= 2
			if out == 1 {
				n ^= 0xEDB88320
			}
		}
	}
	return 0xffffffff - n
}

func TestCRCExamples(t *testing.T) {
	for s, want := range map[string]uint32{
		"":                         0,
		"123456789":                0xcbf43926,
		"a":                        0xe8b7be43,
		"\x00":                     0xd202ef8d,
		"\x00\x00\x00\x00":         0x2144df1c,
		"\xff\xff\xff\xff":         0xffffffff,
		strings.Repeat("\xff", 32): 0xff6cab0b,
		"The quick brown fox jumps over the lazy dog": 0x414fa339,
	} {
		if n := CRC([]byte(s)); n != want {
			t.Errorf("B1: CRC(%q): %08x, want %08x", s, n, want)
		}
	}
	if n := CRC(nil); n != 0 {
		t.Errorf("B1: CRC(nil): %08x", n)
	}
}

func TestCRCOfAnyBytes(t *testing.T) {
	r := rand.New(rand.NewSource(1))
	for c := range 256 {
		b := []byte{byte(c)}
		if CRC(b) != crcByTheWords(b) {
			t.Fatalf("B1: of the byte %d: %08x, want %08x", c, CRC(b), crcByTheWords(b))
		}
	}
	for n := range 300 {
		b := someBytes(r, n)
		if got, want := CRC(b), crcByTheWords(b); got != want || got != crc32.ChecksumIEEE(b) {
			t.Fatalf("B1: of %x: %08x, want %08x", b, got, want)
		}
	}
	b := someBytes(r, 1<<20)
	if CRC(b) != crc32.ChecksumIEEE(b) {
		t.Errorf("B1: of a million bytes: another sum")
	}
}

func turnBits(b []byte, first int, pattern uint32) []byte {
	out := bytes.Clone(b)
	for i := range 32 {
		at := first + i
		if pattern>>i&1 == 1 && at/8 < len(out) {
			out[at/8] ^= 1 << (at % 8)
		}
	}
	return out
}

// TestCRCTellsTurnedBits: some bits within 32 in a row, the lowest of each byte first, are another sum.
func TestCRCTellsTurnedBits(t *testing.T) {
	r := rand.New(rand.NewSource(2))
	for _, b := range [][]byte{make([]byte, 40), bytes.Repeat([]byte{255}, 40), someBytes(r, 40), []byte("123456789")} {
		whole := CRC(b)
		for at := range len(b) * 8 {
			patterns := []uint32{1, 3, 0xff, 0x80000001, 0xffffffff, crcRule | 1}
			for range 20 {
				patterns = append(patterns, r.Uint32()|1)
			}
			for _, p := range patterns {
				if CRC(turnBits(b, at, p)) == whole {
					t.Fatalf("B1: bits %08x turned at %d of %x: the same sum", p, at, b)
				}
			}
		}
	}
}

func TestDigestExamples(t *testing.T) {
	for s, want := range map[string]string{
		"":    "e3b0c44298fc1c149afbf4c8996fb92427ae41e4649b934ca495991b7852b855",
		"abc": "ba7816bf8f01cfea414140de5dae2223b00361a396177a9cb410ff61f20015ad",
		"abcdbcdecdefdefgefghfghighijhijkijkljklmklmnlmnomnopnopq": "248d6a61d20638b8e5c026930c3e6039a33ce45964ff2167f6ecedd419db06c1",
		strings.Repeat("a", 1000000):                               "cdc76e5c9914fb9281a1c7e284d73e67f1809a48a497200e046d39ccc7112cd0",
	} {
		d := Of([]byte(s))
		if Hex(d[:]) != want {
			t.Errorf("B2: Of %d bytes: %s, want %s", len(s), Hex(d[:]), want)
		}
	}
	if Of(nil) != New().Sum() || Of(nil) != Of([]byte{}) {
		t.Errorf("B2: digests of no bytes differ")
	}
}

// TestDigestOfEveryLength: the end of the last block falls elsewhere at each length (55, 56, 63, 64 are its edges).
func TestDigestOfEveryLength(t *testing.T) {
	r := rand.New(rand.NewSource(3))
	for n := range 400 {
		for _, b := range [][]byte{someBytes(r, n), make([]byte, n), bytes.Repeat([]byte{255}, n), bytes.Repeat([]byte{128}, n)} {
			if Of(b) != sha256.Sum256(b) {
				t.Fatalf("B2: Of %d bytes: %x, want %x", n, Of(b), sha256.Sum256(b))
			}
		}
	}
}

// TestDigestOfManyBytes: more than 2^32 bits, so that their number needs its higher word.
func TestDigestOfManyBytes(t *testing.T) {
	if testing.Short() {
		t.Skip()
	}
	piece := bytes.Repeat([]byte("turnkey!"), 1<<17)
	mine, theirs := New(), sha256.New()
	for range 1<<29/len(piece) + 1 {
		mine.Write(piece)
		theirs.Write(piece)
	}
	if got, want := mine.Sum(), theirs.Sum(nil); !bytes.Equal(got[:], want) {
		t.Errorf("B2: of more than 2^29 bytes: %x, want %x", got, want)
	}
}

func TestDigestInPieces(t *testing.T) {
	r := rand.New(rand.NewSource(4))
	for range 500 {
		b := someBytes(r, r.Intn(400))
		often, once := New(), New()
		for at := 0; at < len(b); {
			end := min(len(b), at+r.Intn(90))
			piece := bytes.Clone(b[at:end])
			often.Write(piece)
			once.Write(piece)
			for i := range piece {
				piece[i] ^= 0xa5 // it is the caller's again
			}
			if d := often.Sum(); d != Of(b[:end]) || d != often.Sum() {
				t.Fatalf("B2: asked at %d of %d: %x, want %x", end, len(b), d, Of(b[:end]))
			}
			at = end
		}
		often.Write(nil)
		once.Write([]byte{})
		if often.Sum() != once.Sum() || once.Sum() != sha256.Sum256(b) {
			t.Fatalf("B2: pieces of %x: %x and %x, want %x", b, often.Sum(), once.Sum(), sha256.Sum256(b))
		}
	}
}

func TestDigestCutAnywhere(t *testing.T) {
	b := someBytes(rand.New(rand.NewSource(5)), 200)
	for cut := range len(b) + 1 {
		h := New()
		h.Write(b[:cut])
		h.Write(b[cut:])
		if h.Sum() != sha256.Sum256(b) {
			t.Fatalf("B2: cut at %d: another digest", cut)
		}
	}
}

// TestHashesAreApart: things of one kind have nothing to do with one another (P4).
func TestHashesAreApart(t *testing.T) {
	one, other := New(), New()
	for range 50 {
		one.Write([]byte("one"))
		other.Write([]byte("the other"))
		New().Write([]byte("a third"))
	}
	if one.Sum() != Of([]byte(strings.Repeat("one", 50))) || other.Sum() != Of([]byte(strings.Repeat("the other", 50))) {
		t.Errorf("P4: two hashes at once: other digests")
	}
	d := one.Sum()
	d[0] ^= 1
	if one.Sum() == d {
		t.Errorf("P3: who writes into a digest writes into the hash")
	}
}

// TestNothingIsWrittenInto: P3, what stands behind a list included.
func TestNothingIsWrittenInto(t *testing.T) {
	for _, n := range []int{0, 1, 55, 56, 64, 100} {
		whole := bytes.Repeat([]byte{0x5a}, 256)
		b := whole[:n]
		h := New()
		h.Write(b)
		h.Sum()
		Of(b)
		CRC(b)
		Hex(b)
		if !bytes.Equal(whole, bytes.Repeat([]byte{0x5a}, 256)) {
			t.Fatalf("P3: bytes that were handed in are changed: %x", whole)
		}
	}
}

// rootBits: the first 32 bits behind the point of the root of a number, on numbers without a bound.
func rootBits(n, power int64) uint32 {
	scaled := new(big.Int).Lsh(big.NewInt(n), uint(32*power))
	low, high := big.NewInt(0), new(big.Int).Lsh(big.NewInt(n), 32)
	for low.Cmp(high) < 0 {
		mid := new(big.Int).Add(low, high)
		mid.Add(mid, big.NewInt(1)).Rsh(mid, 1)
		if new(big.Int).Exp(mid, big.NewInt(power), nil).Cmp(scaled) <= 0 {
			low = mid
		} else {
			high = mid.Sub(mid, big.NewInt(1))
		}
	}
	return uint32(low.Uint64())
}

func TestConstantsAreRoots(t *testing.T) {
	var primes []int64
	for n := int64(2); len(primes) < 64; n++ {
		if !slices.ContainsFunc(primes, func(p int64) bool { return n%p == 0 }) {
			primes = append(primes, n)
		}
	}
	for i, w := range startWords() {
		if want := rootBits(primes[i], 2); w != want {
			t.Errorf("B2: H[%d]: %08x, want %08x", i, w, want)
		}
	}
	for i, w := range roundWords() {
		if want := rootBits(primes[i], 3); w != want {
			t.Errorf("B2: K[%d]: %08x, want %08x", i, w, want)
		}
	}
}
