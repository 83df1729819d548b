package bits

import (
	"math/big"
	"math/rand"
	"strings"
	"testing"
)

// lowBits: the low n bits of v as text, by the number's own digits, apart from how the program takes them.
func lowBits(v uint64, n int) string {
	digits := new(big.Int).SetUint64(v).Text(2)
	digits = strings.Repeat("0", 64) + digits
	return digits[len(digits)-n:]
}

// numberOf: the number whose digits of base two these are.
func numberOf(t *testing.T, row string) uint64 {
	t.Helper()
	n, ok := new(big.Int).SetString("0"+row, 2)
	if !ok || !n.IsUint64() {
		t.Fatalf("no number: %q", row)
	}
	return n.Uint64()
}

// bytesByTheWords: a row as bytes, bit by bit.
func bytesByTheWords(row string) []byte {
	var out []byte
	for i, c := range row {
		if i%8 == 0 {
			out = append(out, 0)
		}
		if c == '1' {
			out[i/8] += []byte{128, 64, 32, 16, 8, 4, 2, 1}[i%8]
		}
	}
	return out
}

// rowOf: all bits of some bytes as text.
func rowOf(b []byte) string {
	var out strings.Builder
	for _, c := range b {
		out.WriteString(lowBits(uint64(c), 8))
	}
	return out.String()
}

// someNumber: often one of the ends, where what stands above n bits shows.
func someNumber(r *rand.Rand) uint64 {
	switch r.Intn(4) {
	case 0:
		return 0
	case 1:
		return 1<<64 - 1
	case 2:
		return 1 << r.Intn(64)
	}
	return r.Uint64()
}

func TestWhatWasPutIsGot(t *testing.T) {
	r := rand.New(rand.NewSource(3))
	for range 300 {
		w := NewWriter()
		var counts []int
		var want []uint64
		for range r.Intn(60) {
			v, n := someNumber(r), r.Intn(65)
			w.Put(v, n)
			counts = append(counts, n)
			want = append(want, numberOf(t, lowBits(v, n)))
		}
		reader := NewReader(w.Bytes())
		for i, n := range counts {
			if v, ok := reader.Get(n); v != want[i] || !ok {
				t.Fatalf("number %d of %v: Get(%d): %d, %v; want %d, true", i, counts, n, v, ok, want[i])
			}
		}
		left := reader.Left()
		if left < 0 || left >= 8 {
			t.Fatalf("%v: %d bits left", counts, left)
		}
		if v, ok := reader.Get(left); v != 0 || !ok {
			t.Fatalf("%v: what is left: %d, %v", counts, v, ok)
		}
	}
}
