package chunk

import (
	"bytes"
	"encoding/hex"
	"math"
	"math/rand"
	"reflect"
	"slices"
	"strings"
	"testing"

	"turnkey/api"
)

const firstHex = "00000000000003e80000000000000005"

// ofHex: bytes, which may be told with gaps.
func ofHex(t *testing.T, s string) []byte {
	t.Helper()
	b, err := hex.DecodeString(strings.ReplaceAll(s, " ", ""))
	if err != nil {
		t.Fatal(err)
	}
	return b
}

// sees fails if the chunk's samples are not these.
func sees(t *testing.T, c *Chunk, l []api.Sample) {
	t.Helper()
	if got, want := c.Bytes(), bytesByTheWords(l); c.Len() != len(l) || !bytes.Equal(got, want) {
		t.Fatalf("J1: %d samples, %x; want %d, %x", c.Len(), got, len(l), want)
	}
}

func TestExamplesOfAppend(t *testing.T) {
	c := New(128)
	if c.Len() != 0 || len(c.Bytes()) != 0 {
		t.Fatalf("J1: a new chunk has %d samples, %x", c.Len(), c.Bytes())
	}
	for i, one := range []struct {
		t    int64
		v    uint64
		want string
	}{
		{1000, 5, "01" + firstHex},
		{1060, 5, "02" + firstHex + "9e00"},
		{1120, 5, "03" + firstHex + "9e00"},
		{1180, 4, "04" + firstHex + "9e07f020"},
	} {
		if !c.Append(one.t, one.v) || c.Len() != i+1 || hex.EncodeToString(c.Bytes()) != one.want {
			t.Fatalf("J1: behind (%d, %d): %d samples, %x; want %s", one.t, one.v, c.Len(), c.Bytes(), one.want)
		}
	}
}

// The chapter's bits of times that wrap round: 10 1111111 0, then 10 0000010 0.
func TestExampleOfTimesThatWrapRound(t *testing.T) {
	c := chunkOf(t, []api.Sample{{T: math.MinInt64}, {T: math.MaxInt64}, {T: math.MinInt64}})
	want := ofHex(t, "03 8000000000000000 0000000000000000 bfa040")
	if got := c.Bytes(); !bytes.Equal(got, want) {
		t.Fatalf("J1: %x; want %x", got, want)
	}
}

func TestExamplesOfRoom(t *testing.T) {
	for _, s := range []api.Sample{{}, {T: 7, V: 7}, {T: -1, V: math.MaxUint64}} {
		c := New(16)
		if c.Append(s.T, s.V) || c.Len() != 0 || len(c.Bytes()) != 0 {
			t.Errorf("J1: into 16 bytes goes %v", s)
		}
		c = New(17)
		if !c.Append(s.T, s.V) || c.Append(s.T, s.V) || c.Append(s.T+1, s.V) {
			t.Errorf("J1: into 17 bytes go %d of %v", c.Len(), s)
		}
		sees(t, c, []api.Sample{s})
		c = New(18)
		if !c.Append(s.T, s.V) || c.Append(s.T+1, s.V) || c.Append(s.T, s.V^1) || !c.Append(s.T, s.V) {
			t.Errorf("J1: into 18 bytes go %d of %v", c.Len(), s)
		}
		sees(t, c, []api.Sample{s, s})
	}
}

// Each line of the table, at both of its ends; the second sample's D is its STEP.
func TestTimesAtTheEdges(t *testing.T) {
	for _, d := range edges() {
		for _, from := range []int64{0, 1000, -1, math.MaxInt64, math.MinInt64} {
			for _, step := range edges() {
				l := []api.Sample{{T: from}, {T: from + step}, {T: from + step + step + d}}
				sees(t, chunkOf(t, l), l)
			}
		}
	}
}

func TestBitsOfTimes(t *testing.T) {
	for d, want := range map[int64]string{
		0: "0", 63: "10 0111111", -64: "10 1000000", -1: "10 1111111", 64: "110 001000000", -65: "110 110111111",
		255: "110 011111111", -256: "110 100000000", 256: "1110 000100000000", -257: "1110 111011111111",
		2047: "1110 011111111111", -2048: "1110 100000000000", 2048: "1111 " + strings.Repeat("0", 52) + "100000000000",
		-2049: "1111 " + strings.Repeat("1", 52) + "011111111111", math.MinInt64: "1111 1" + strings.Repeat("0", 63),
		math.MaxInt64: "1111 0" + strings.Repeat("1", 63),
	} {
		row := strings.Repeat("0", 128) + strings.ReplaceAll(want, " ", "") + "0"
		if got := chunkOf(t, []api.Sample{{}, {T: d}}).Bytes(); !bytes.Equal(got, bytesOf(2, row)) {
			t.Errorf("J1: D %d: %x; want %s", d, got, want)
		}
	}
}

func TestBitsOfValues(t *testing.T) {
	ones := strings.Repeat("1", 64)
	for x, want := range map[uint64]string{
		0: "0", 1: "1 111111 000000 1", 1 << 63: "1 000000 000000 1", 2: "1 111110 000000 1", 3: "1 111110 000001 11",
		5: "1 111101 000010 101", 1<<63 | 1: "1 000000 111111 1" + strings.Repeat("0", 62) + "1",
		math.MaxUint64: "1 000000 111111 " + ones, math.MaxUint64 >> 1: "1 000001 111110 " + ones[1:], math.MaxUint64 - 1: "1 000000 111110 " + ones[1:],
	} {
		for _, v := range []uint64{0, 5, math.MaxUint64, 0x0123456789abcdef} {
			row := lowBits(0, 64) + lowBits(v, 64) + "0" + strings.ReplaceAll(want, " ", "")
			if got := chunkOf(t, []api.Sample{{V: v}, {V: v ^ x}}).Bytes(); !bytes.Equal(got, bytesOf(2, row)) {
				t.Errorf("J1: X %x: %x; want %s", x, got, want)
			}
		}
	}
}

// Each count of noughts with each count of bits, and what was there ahead comes back.
func TestValuesOfAllSpans(t *testing.T) {
	r := rand.New(rand.NewSource(1))
	for ahead := range 64 {
		for size := 1; size <= 64-ahead; size++ {
			ends := uint64(1)<<(size-1) | 1
			x := (ends | r.Uint64()&(ends-1)) << (64 - ahead - size)
			l := []api.Sample{{V: 77}, {V: 77 ^ x}, {V: 77 ^ x}, {V: 77}}
			sees(t, chunkOf(t, l), l)
		}
	}
}

func TestRunsByTheWords(t *testing.T) {
	r := rand.New(rand.NewSource(2))
	for range 300 {
		l := someRun(r, r.Intn(40)+1)
		c := New(math.MaxInt)
		for i, s := range l {
			if !c.Append(s.T, s.V) {
				t.Fatalf("J1: sample %d did not go in", i)
			}
			sees(t, c, l[:i+1])
		}
	}
}

// Append holds what the bytes would be against most, whatever came ahead, and changes nothing where it answers false.
func TestRoomByTheWords(t *testing.T) {
	r := rand.New(rand.NewSource(3))
	later := 0
	for range 400 {
		most := r.Intn(140)
		c := New(most)
		var in []api.Sample
		refused := false
		for range 30 {
			s := api.Sample{T: r.Int63(), V: r.Uint64()}
			if len(in) > 0 && r.Intn(3) > 0 {
				end := in[len(in)-1]
				s = api.Sample{T: end.T + edges()[r.Intn(len(edges()))], V: end.V ^ uint64(r.Intn(2))<<r.Intn(64)}
			}
			with := append(slices.Clone(in), s)
			fit := sizeByTheWords(with) <= most
			if got := c.Append(s.T, s.V); got != fit {
				t.Fatalf("J1: most %d, %d bytes with %v: %v", most, sizeByTheWords(with), s, got)
			}
			if fit {
				in = with
				if refused {
					later++
				}
			} else {
				refused = true
			}
			sees(t, c, in)
		}
	}
	if later == 0 {
		t.Error("J1: no sample went in behind one that did not")
	}
}

// Of samples that are all alike each byte more takes four, but where the count needs a byte more.
func TestRoomOfAlike(t *testing.T) {
	for most := -1; most <= 300; most++ {
		c := New(most)
		for range 1300 {
			c.Append(-9, 9)
		}
		n := 0
		for n < 1300 && sizeOfAlike(n+1) <= most {
			n++
		}
		if c.Len() != n || len(c.Bytes()) != sizeOfAlike(n) {
			t.Fatalf("J1: into %d bytes go %d alike, %d bytes; want %d", most, c.Len(), len(c.Bytes()), n)
		}
	}
}

func sizeOfAlike(n int) int {
	if n == 0 {
		return 0
	}
	size := 1
	for k := n; k >= 128; k /= 128 {
		size++
	}
	return size + (128+2*(n-1)+7)/8
}

// A count that needs a byte more takes room though the row's last byte has some.
func TestRoomOfTheCount(t *testing.T) {
	for _, n := range []int{127, 16383} {
		alike := make([]api.Sample, n)
		rows := (128 + 2*(n-1) + 7) / 8
		if (128+2*n+7)/8 != rows {
			t.Fatalf("the row of %d has no room for one more", n)
		}
		size := sizeOfAlike(n)
		for _, more := range []int{0, 1} {
			c := New(size + more)
			for range alike {
				if !c.Append(0, 0) {
					t.Fatalf("J1: %d of %d go into %d bytes", c.Len(), n, size+more)
				}
			}
			if got := c.Append(0, 0); got != (more == 1) || c.Len() != n+more || len(c.Bytes()) != size+more {
				t.Errorf("J1: one more than %d into %d bytes: %v, %d bytes", n, size+more, got, len(c.Bytes()))
			}
		}
	}
}

func TestRoomOfNoBytesAndOfAll(t *testing.T) {
	for _, most := range []int{0, -1, -17, -128, math.MinInt32, math.MinInt, 1, 15, 16} {
		c := New(most)
		for _, s := range []api.Sample{{}, {T: math.MinInt64, V: math.MaxUint64}, {}} {
			if c.Append(s.T, s.V) || c.Len() != 0 || len(c.Bytes()) != 0 {
				t.Fatalf("J1: into %d bytes goes %v", most, s)
			}
		}
	}
	l := someRun(rand.New(rand.NewSource(4)), 500)
	for _, most := range []int{math.MaxInt, math.MaxInt - 1, math.MaxInt32, 1 << 20, sizeByTheWords(l)} {
		c := New(most)
		for _, s := range l {
			if !c.Append(s.T, s.V) {
				t.Fatalf("J1: into %d bytes %d go", most, c.Len())
			}
		}
		sees(t, c, l)
	}
}

// Into 128 bytes 7 samples go, whatever they are, and of those that are alike 441.
func TestRoomOfASlot(t *testing.T) {
	c := New(api.SlotBytes)
	for range 1000 {
		c.Append(1, 1)
	}
	if c.Len() != 441 || len(c.Bytes()) != api.SlotBytes {
		t.Errorf("J1: %d alike, %d bytes", c.Len(), len(c.Bytes()))
	}
	// Each of these has 145 bits: a D of 64, an X whose first and last bits are 1.
	c = New(api.SlotBytes)
	at, step, v := int64(0), int64(0), uint64(0)
	for range 100 {
		c.Append(at, v)
		step += 1 << 40
		at += step
		v ^= 1<<63 | 1
	}
	if c.Len() != 7 || len(c.Bytes()) != 126 {
		t.Errorf("J1: %d of the longest, %d bytes", c.Len(), len(c.Bytes()))
	}
	r := rand.New(rand.NewSource(5))
	for range 500 {
		c := New(api.SlotBytes)
		l := someRun(r, 450)
		for _, s := range l {
			if !c.Append(s.T, s.V) {
				break
			}
		}
		if c.Len() < 7 || c.Len() > 441 || len(c.Bytes()) > api.SlotBytes {
			t.Fatalf("J1: %d samples, %d bytes", c.Len(), len(c.Bytes()))
		}
	}
}

// What Append answers hangs on the samples that went in: those that did not leave no trace.
func TestRefusedLeavesNoTrace(t *testing.T) {
	r := rand.New(rand.NewSource(6))
	for range 300 {
		most := r.Intn(60) + 17
		c, plain := New(most), New(most)
		for range 60 {
			s := someRun(r, 2)[1]
			if c.Append(s.T, s.V) && !plain.Append(s.T, s.V) {
				t.Fatalf("J1: most %d: %v goes in behind refused ones alone", most, s)
			}
			if c.Len() != plain.Len() || !bytes.Equal(c.Bytes(), plain.Bytes()) {
				t.Fatalf("J1: most %d: %x; without the refused ones %x", most, c.Bytes(), plain.Bytes())
			}
		}
	}
}

func TestBytesAreTheCallers(t *testing.T) {
	l := someRun(rand.New(rand.NewSource(7)), 60)
	c := New(1 << 20)
	for i, s := range l {
		c.Append(s.T, s.V)
		one, two := c.Bytes(), c.Bytes()
		scribble(one)
		if !bytes.Equal(two, bytesByTheWords(l[:i+1])) {
			t.Fatalf("P3: two answers share memory")
		}
		sees(t, c, l[:i+1])
	}
	was := c.Bytes()
	c.Append(1, 1)
	if !bytes.Equal(was, bytesByTheWords(l)) {
		t.Error("P3: bytes that were answered are written into")
	}
	none := New(100)
	scribble(none.Bytes())
	none.Append(5, 5)
	sees(t, none, []api.Sample{{T: 5, V: 5}})
}

// scribble writes over a list and its spare room, as its owner may.
func scribble(b []byte) {
	b = b[:cap(b)]
	for i := range b {
		b[i] ^= 0xff
	}
}

func TestChunksAreApart(t *testing.T) {
	r := rand.New(rand.NewSource(8))
	one, two := someRun(r, 50), someRun(r, 50)
	c, d := New(1<<20), New(40)
	in := 0
	for i := range one {
		c.Append(one[i].T, one[i].V)
		if in == i && d.Append(two[i].T, two[i].V) {
			in++
		}
	}
	sees(t, c, one)
	sees(t, d, two[:in])
}

// What a chunk gives out is the chapter's calls, not those of the writer in it.
func TestCallsAreAsGiven(t *testing.T) {
	var names []string
	for m := range reflect.TypeFor[*Chunk]().Methods() {
		names = append(names, m.Name)
	}
	if want := []string{"Append", "Bytes", "Len"}; !slices.Equal(names, want) {
		t.Errorf("the calls of a chunk: %v; want %v", names, want)
	}
	for f := range reflect.TypeFor[Chunk]().Fields() {
		if f.IsExported() {
			t.Errorf("a chunk gives out %s", f.Name)
		}
	}
}

// A long chunk must not be gone through for each sample that it takes or refuses.
func TestAppendIsCheap(t *testing.T) {
	c := New(1 << 20)
	for c.Append(1<<40*int64(c.Len()*c.Len()), uint64(c.Len()%2)<<63|uint64(c.Len()%2)) {
	}
	n := c.Len()
	for range 1 << 18 {
		c.Append(math.MinInt64, 1<<63|1)
	}
	if c.Len() != n || n < 50000 {
		t.Errorf("J1: %d samples, then %d", n, c.Len())
	}
}
