package chunk

import (
	"bytes"
	"math"
	"math/rand"
	"slices"
	"strings"
	"testing"

	"turnkey/api"
)

// takes fails if Read of some bytes is not these samples.
func takes(t *testing.T, b []byte, want []api.Sample) {
	t.Helper()
	if l, e := Read(b); e != api.OK || !slices.Equal(l, want) {
		t.Fatalf("J2: Read(%x): %v, %d; want %v", b, l, e, want)
	}
}

// refuses fails if Read of some bytes is not ErrChunk, and nothing.
func refuses(t *testing.T, why string, b []byte) {
	t.Helper()
	if l, e := Read(b); l != nil || e != api.ErrChunk {
		t.Fatalf("J2: Read(%x): %v, %d; want nothing, ErrChunk: %s", b, l, e, why)
	}
}

func TestExamplesOfRead(t *testing.T) {
	takes(t, nil, nil)
	takes(t, []byte{}, nil)
	l := []api.Sample{{T: 1000, V: 5}, {T: 1060, V: 5}, {T: 1120, V: 5}, {T: 1180, V: 4}}
	takes(t, ofHex(t, "01"+firstHex), l[:1])
	takes(t, ofHex(t, "02"+firstHex+"9e00"), l[:2])
	takes(t, ofHex(t, "03"+firstHex+"9e00"), l[:3])
	takes(t, ofHex(t, "04"+firstHex+"9e07f020"), l)
	takes(t, ofHex(t, "03 8000000000000000 0000000000000000 bfa040"), []api.Sample{{T: math.MinInt64}, {T: math.MaxInt64}, {T: math.MinInt64}})
	refuses(t, "01 and 15 bytes", ofHex(t, "01"+firstHex[:30]))
	refuses(t, "a count of 0", ofHex(t, "00"))
	refuses(t, "a count of 0 that is too long", ofHex(t, "8000"))
	refuses(t, "a byte too many", ofHex(t, "01"+firstHex+"00"))
	refuses(t, "D 0 in 9 bits", ofHex(t, "02"+firstHex+"c000"))
}

func TestCountsThatAreWrong(t *testing.T) {
	refuses(t, "a count of 0, with samples", ofHex(t, "00"+firstHex))
	refuses(t, "a count of 0, a byte behind", ofHex(t, "0000"))
	refuses(t, "no end of the count", ofHex(t, "80"))
	refuses(t, "no end of the count", ofHex(t, "ffffffffffffffffffff"))
	refuses(t, "a count that is too long", ofHex(t, "8100"+firstHex))
	refuses(t, "a count that is too long", ofHex(t, "818000"+firstHex))
	refuses(t, "a count above 2^64 - 1", ofHex(t, "ffffffffffffffffff02"+firstHex))
	refuses(t, "a count of 2^64 - 1", ofHex(t, "ffffffffffffffffff01"+firstHex))
	refuses(t, "a count of 2^64 + 1 is not 1", ofHex(t, "81808080808080808002"+firstHex))
	refuses(t, "a count of 2^32 + 1 is not 1", ofHex(t, "8180808010"+firstHex))
	refuses(t, "a count alone", ofHex(t, "01"))
	refuses(t, "one of two", ofHex(t, "02"+firstHex))
	refuses(t, "five alike in one byte", ofHex(t, "06"+firstHex+"00"))
	refuses(t, "one in a byte more", ofHex(t, "01"+firstHex+"80"))
	refuses(t, "two in a byte less", ofHex(t, "02"+firstHex+"9e"))
	takes(t, ofHex(t, "05"+firstHex+"00"), slices.Repeat([]api.Sample{{T: 1000, V: 5}}, 5))
}

// second: two samples, the second one by these bits.
func second(row string) []byte {
	return bytesOf(2, strings.Repeat("0", 128)+strings.ReplaceAll(row, " ", ""))
}

// Each D in each width in which it stands: the table's first line that holds is the one that is taken.
func TestTimesInMoreBitsThanTheyNeed(t *testing.T) {
	widths := []struct {
		flags string
		bits  int
	}{{"10", 7}, {"110", 9}, {"1110", 12}, {"1111", 64}}
	all := edges()
	for d := int64(-2100); d <= 2100; d++ {
		all = append(all, d)
	}
	for _, d := range all {
		right := timeByTheWords(d)
		takes(t, second(right+"0"), []api.Sample{{}, {T: d}})
		for _, w := range widths {
			low := int64(-1) << (w.bits - 1)
			if row := w.flags + lowBits(uint64(d), w.bits); d >= low && d <= ^low && row != right {
				refuses(t, "a D in more bits than it needs", second(row+"0"))
			}
		}
	}
}

func TestValuesInOtherForms(t *testing.T) {
	for _, c := range []struct{ why, row string }{
		{"X is 0", "0 1 000000 000000 0"},
		{"X is 0", "0 1 111111 000000 0"},
		{"X is 0", "0 1 000000 111111 " + strings.Repeat("0", 64)},
		{"noughts that are not all", "0 1 000000 000001 01"},
		{"noughts that are not all", "0 1 111110 000001 01"},
		{"noughts that are not all", "0 1 000000 111111 " + strings.Repeat("0", 63) + "1"},
		{"a last bit that is 0", "0 1 000000 000001 10"},
		{"a last bit that is 0", "0 1 111110 000001 10"},
		{"a last bit that is 0", "0 1 000000 111111 1" + strings.Repeat("0", 63)},
		{"more than 64 bits", "0 1 111111 000001 11"},
		{"more than 64 bits", "0 1 000001 111111 " + strings.Repeat("1", 64)},
		{"more than 64 bits", "0 1 111111 111111 " + strings.Repeat("1", 64)},
		{"more than 64 bits", "0 1 100000 100000 " + strings.Repeat("1", 33)},
	} {
		refuses(t, c.why, second(c.row))
	}
	takes(t, second("0 1 111111 000000 1"), []api.Sample{{}, {V: 1}})
	takes(t, second("0 1 000000 000000 1"), []api.Sample{{}, {V: 1 << 63}})
	takes(t, second("0 1 111110 000001 11"), []api.Sample{{}, {V: 3}})
	takes(t, second("0 1 100000 011111 "+strings.Repeat("1", 32)), []api.Sample{{}, {V: math.MaxUint32}})
	takes(t, second("0 1 000000 111111 "+strings.Repeat("1", 64)), []api.Sample{{}, {V: math.MaxUint64}})
}

// Each count of noughts with each count of bits: 64 in all at most, and what is told must be all.
func TestAllSpansThatAreTold(t *testing.T) {
	for ahead := range 64 {
		for size := 1; size <= 64; size++ {
			told := "0 1" + lowBits(uint64(ahead), 6) + lowBits(uint64(size-1), 6)
			ones := strings.Repeat("1", size)
			if ahead+size > 64 {
				refuses(t, "more than 64 bits", second(told+ones))
				continue
			}
			x := uint64(math.MaxUint64) >> (64 - size) << (64 - ahead - size)
			takes(t, second(told+ones), []api.Sample{{}, {V: x}})
			refuses(t, "a first bit that is 0", second(told+"0"+ones[1:]))
			refuses(t, "a last bit that is 0", second(told+ones[1:]+"0"))
		}
	}
}

// code: how one sample behind the first may be written, and what it tells.
type code struct {
	row string
	d   int64
	x   uint64
}

// codes: all of at most so many bits.
func codes(most int) []code {
	values := map[string]uint64{"0": 0}
	for place := range 64 {
		for bits := uint64(1); bits < 64; bits += 2 {
			if x := bits << place; len(valueByTheWords(x)) < most && x>>place == bits {
				values[valueByTheWords(x)] = x
			}
		}
	}
	var out []code
	for d := int64(-2048); d <= 2047; d++ {
		for row, x := range values {
			if one := timeByTheWords(d) + row; len(one) <= most {
				out = append(out, code{one, d, x})
			}
		}
	}
	return out
}

// TestAllShortRows: behind a first sample all rows of one and of two bytes, with all counts that might be.
func TestAllShortRows(t *testing.T) {
	all := codes(16)
	start := []api.Sample{{T: 1000, V: 5}}
	right := map[string][]api.Sample{}
	var grow func(l []api.Sample, step int64, row string)
	grow = func(l []api.Sample, step int64, row string) {
		right[string(bytesOf(uint64(len(l)), rowByTheWords(start)+row))] = l
		for _, c := range all {
			if len(row)+len(c.row) <= 16 {
				end := l[len(l)-1]
				next := api.Sample{T: end.T + step + c.d, V: end.V ^ c.x}
				grow(append(slices.Clone(l), next), step+c.d, row+c.row)
			}
		}
	}
	grow(start, 0, "")
	taken := 0
	for count := range uint64(12) {
		for size := range 3 {
			for bits := range uint64(1) << (8 * size) {
				b := bytesOf(count, rowByTheWords(start)+lowBits(bits, 8*size))
				want, ok := right[string(b)]
				if !ok {
					refuses(t, "it is no row's", b)
					continue
				}
				takes(t, b, want)
				taken++
			}
		}
	}
	if taken != len(right) || taken < 1000 {
		t.Errorf("J2: %d rows taken of %d", taken, len(right))
	}
}

func TestReadOfBytes(t *testing.T) {
	r := rand.New(rand.NewSource(10))
	for range 400 {
		l := someRun(r, r.Intn(200)+1)
		b := chunkOf(t, l).Bytes()
		takes(t, b, l)
		takes(t, bytesByTheWords(l), l)
	}
	for _, n := range []int{127, 128, 129, 16383, 16384, 16385} {
		l := slices.Repeat([]api.Sample{{T: 3, V: 4}}, n)
		takes(t, chunkOf(t, l).Bytes(), l)
	}
}

// Bytes of a chunk to which what Read takes is appended are the bytes; so each other form is refused.
func TestBytesOfRead(t *testing.T) {
	r := rand.New(rand.NewSource(11))
	taken := 0
	for range 100 {
		l := someRun(r, r.Intn(12)+1)
		b := bytesByTheWords(l)
		for i := range len(b) * 8 {
			turned := bytes.Clone(b)
			turned[i/8] ^= 128 >> (i % 8)
			if readsItsOwnForm(t, turned) {
				taken++
			}
		}
		for range 200 {
			noisy := bytes.Clone(b)
			r.Read(noisy[min(len(noisy), 17):])
			noisy[0] = byte(r.Intn(14))
			if readsItsOwnForm(t, noisy) {
				taken++
			}
		}
	}
	if taken == 0 {
		t.Error("J2: none of these was read")
	}
}

// readsItsOwnForm: whether Read takes the bytes; it fails, if it takes those of no samples.
func readsItsOwnForm(t *testing.T, b []byte) bool {
	t.Helper()
	l, e := Read(b)
	if e != api.OK {
		if l != nil || e != api.ErrChunk {
			t.Fatalf("J2: Read(%x): %v, %d", b, l, e)
		}
		return false
	}
	if want := bytesByTheWords(l); !bytes.Equal(b, want) {
		t.Fatalf("J2: Read(%x): samples whose bytes are %x", b, want)
	}
	c := New(len(b))
	for _, s := range l {
		c.Append(s.T, s.V)
	}
	sees(t, c, l)
	return true
}

func TestBytesTooFewOrTooMany(t *testing.T) {
	r := rand.New(rand.NewSource(12))
	for range 200 {
		l := someRun(r, r.Intn(8)+1)
		b := bytesByTheWords(l)
		for n := 1; n < len(b); n++ {
			refuses(t, "bytes too few", b[:n])
		}
		refuses(t, "a byte too many", append(bytes.Clone(b), 0))
		refuses(t, "a byte too many", append(bytes.Clone(b), byte(r.Intn(256))))
		refuses(t, "bytes too many", append(bytes.Clone(b), make([]byte, 30)...))
		refuses(t, "the same again", append(bytes.Clone(b), b...))
	}
}

func TestBitsBehindTheRow(t *testing.T) {
	r := rand.New(rand.NewSource(13))
	for range 200 {
		l := someRun(r, r.Intn(8)+2)
		row := rowByTheWords(l)
		b := bytesOf(uint64(len(l)), row)
		for spare := range (8 - len(row)%8) % 8 {
			turned := bytes.Clone(b)
			turned[len(turned)-1] |= 1 << spare
			refuses(t, "a bit behind that is not 0", turned)
		}
	}
}

func TestReadOfNoise(t *testing.T) {
	r := rand.New(rand.NewSource(14))
	for range 50000 {
		b := make([]byte, r.Intn(40))
		r.Read(b)
		if len(b) > 0 && r.Intn(2) == 0 {
			b[0] = byte(r.Intn(5))
		}
		readsItsOwnForm(t, b)
	}
}

// A count may be far above what the bytes have: going through it would never end.
func TestGreatCounts(t *testing.T) {
	for _, count := range []uint64{math.MaxUint64, 1 << 63, 1 << 40, 1 << 33, 1<<22 + 62} {
		refuses(t, "more samples than the bytes have", append(bytesOf(count, ""), make([]byte, 16)...)[:20])
		b := append(bytesOf(count, ""), make([]byte, 1<<17)...)
		if l, e := Read(b); l != nil || e != api.ErrChunk {
			t.Fatalf("J2: a count of %d: %d samples, %d", count, len(l), e)
		}
	}
}

func TestReadKeepsWhatIsHandedIn(t *testing.T) {
	l := someRun(rand.New(rand.NewSource(15)), 30)
	b := bytesByTheWords(l)
	room := append(bytes.Clone(b), bytes.Repeat([]byte{'r'}, 40)...)
	was := bytes.Clone(room)
	one, _ := Read(room[:len(b)])
	two, _ := Read(room[:len(b)])
	if !bytes.Equal(room, was) {
		t.Fatal("P3: what was handed in is written into")
	}
	spare := one[:cap(one)]
	for i := range spare {
		spare[i] = api.Sample{T: 1, V: 1}
	}
	scribble(room)
	if !slices.Equal(two, l) {
		t.Fatal("P3: two answers share memory, or an answer that of the bytes")
	}
	scribble(room)
	takes(t, room[:len(b)], l)
}
