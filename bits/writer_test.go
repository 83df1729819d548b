package bits

import (
	"bytes"
	"math"
	"math/rand"
	"testing"
)

// sees fails if the writer's row is not this one.
func sees(t *testing.T, w *Writer, row string) {
	t.Helper()
	want := bytesByTheWords(row)
	if got := w.Bytes(); w.Len() != len(row) || !bytes.Equal(got, want) {
		t.Fatalf("%d bits, %x; want %d, %x", w.Len(), got, len(row), want)
	}
}

func writerOf(row string) *Writer {
	w := NewWriter()
	for _, c := range row {
		w.Put(uint64(c-'0'), 1)
	}
	return w
}

func TestExamplesOfWriter(t *testing.T) {
	w := NewWriter()
	for _, c := range []struct {
		what string
		do   func()
		size int
		want []byte
	}{
		{"new", func() {}, 0, nil},
		{"Put(5, 3)", func() { w.Put(5, 3) }, 3, []byte{0xa0}},
		{"Put(1, 1)", func() { w.Put(1, 1) }, 4, []byte{0xb0}},
		{"Put(0, 0)", func() { w.Put(0, 0) }, 4, []byte{0xb0}},
		{"Put(258, 9)", func() { w.Put(258, 9) }, 13, []byte{0xb8, 0x10}},
		{"Cut(4)", func() { w.Cut(4) }, 4, []byte{0xb0}},
		{"Put(255, 4)", func() { w.Put(255, 4) }, 8, []byte{0xbf}},
		{"Cut(-3)", func() { w.Cut(-3) }, 0, nil},
		{"Put(1, 65)", func() { w.Put(1, 65) }, 64, []byte{0, 0, 0, 0, 0, 0, 0, 1}},
		{"Put(9, -1)", func() { w.Put(9, -1) }, 64, []byte{0, 0, 0, 0, 0, 0, 0, 1}},
		{"Cut(0)", func() { w.Cut(0) }, 0, nil},
	} {
		c.do()
		if got := w.Bytes(); w.Len() != c.size || !bytes.Equal(got, c.want) {
			t.Fatalf("%s: %d bits, %x; want %d, %x", c.what, w.Len(), got, c.size, c.want)
		}
	}
}

func TestPutAtEveryPlace(t *testing.T) {
	numbers := []uint64{0, 1, 2, 0x0123456789abcdef, 0xaaaaaaaaaaaaaaaa, 1 << 63, 1<<64 - 2, 1<<64 - 1}
	for ahead := range 17 {
		for n := range 65 {
			for _, v := range numbers {
				row := lowBits(0b10011010111001011, ahead)
				w := writerOf(row)
				w.Put(v, n)
				row += lowBits(v, n)
				sees(t, w, row)
				w.Put(1, 1)
				sees(t, w, row+"1")
			}
		}
	}
}

func TestPutOfWrongCounts(t *testing.T) {
	for _, ahead := range []string{"", "1", "1010101", "10101010"} {
		for _, n := range []int{-1, -8, -64, math.MinInt64} {
			w := writerOf(ahead)
			w.Put(1<<64-1, n)
			sees(t, w, ahead)
		}
		for _, n := range []int{64, 65, 72, 128, math.MaxInt64} {
			w := writerOf(ahead)
			w.Put(0x8000000000000005, n)
			sees(t, w, ahead+lowBits(0x8000000000000005, 64))
		}
	}
}

func TestCutAtEveryPlace(t *testing.T) {
	ones := "1111111111111111111111111111111111111111"
	for size := range len(ones) + 1 {
		for n := -2; n <= size+9; n++ {
			w := writerOf(ones[:size])
			w.Cut(n)
			kept := ones[:min(max(n, 0), size)]
			sees(t, w, kept)
			w.Put(0, 20)
			sees(t, w, kept+lowBits(0, 20))
			w.Put(5, 3)
			sees(t, w, kept+lowBits(0, 20)+"101")
		}
	}
}

func TestCutOfWrongCounts(t *testing.T) {
	for _, row := range []string{"", "1", "11111111", "111111111"} {
		for _, n := range []int{-1, -8, math.MinInt64} {
			w := writerOf(row)
			w.Cut(n)
			sees(t, w, "")
			w.Put(0, 9)
			sees(t, w, "000000000")
		}
		for _, n := range []int{len(row), len(row) + 1, len(row) + 8, 1 << 40, math.MaxInt64} {
			w := writerOf(row)
			w.Cut(n)
			sees(t, w, row)
			w.Put(0, 3)
			sees(t, w, row+"000")
		}
	}
}

func TestPutsAndCutsInARow(t *testing.T) {
	r := rand.New(rand.NewSource(1))
	for range 200 {
		w, row := NewWriter(), ""
		for range 60 {
			if r.Intn(3) == 0 {
				n := r.Intn(len(row)+12) - 4
				w.Cut(n)
				row = row[:min(max(n, 0), len(row))]
			} else {
				v, n := someNumber(r), r.Intn(70)-3
				w.Put(v, n)
				row += lowBits(v, min(max(n, 0), 64))
			}
			sees(t, w, row)
		}
	}
}

func TestCutOfWhatLenToldOnce(t *testing.T) {
	r := rand.New(rand.NewSource(2))
	for range 300 {
		w, once := NewWriter(), NewWriter()
		for range r.Intn(6) {
			v, n := r.Uint64(), r.Intn(65)
			w.Put(v, n)
			once.Put(v, n)
		}
		told := w.Len()
		for range r.Intn(6) {
			w.Put(1<<64-1, r.Intn(65))
		}
		w.Cut(told)
		for range 6 {
			if w.Len() != once.Len() || !bytes.Equal(w.Bytes(), once.Bytes()) {
				t.Fatalf("%d bits, %x; once %d, %x", w.Len(), w.Bytes(), once.Len(), once.Bytes())
			}
			v, n := someNumber(r), r.Intn(65)
			w.Put(v, n)
			once.Put(v, n)
		}
	}
}

func TestRowsOfOneLengthByTheirBytes(t *testing.T) {
	for n := range 10 {
		rows := map[string]uint64{}
		for v := range uint64(1) << n {
			w := NewWriter()
			w.Put(v, n)
			b := string(w.Bytes())
			if len(b) != (n+7)/8 {
				t.Fatalf("%d bits: %d bytes", n, len(b))
			}
			if other, ok := rows[b]; ok {
				t.Fatalf("%d bits: %d and %d are %x", n, other, v, b)
			}
			rows[b] = v
		}
	}
}

// TestBytesAreTheirOwners: what comes out is new memory, its spare room too.
func TestBytesAreTheirOwners(t *testing.T) {
	for _, row := range []string{"1", "10101010", "101010101", lowBits(1<<64-1, 64)} {
		w := writerOf(row)
		for range 20 {
			first, second := w.Bytes(), w.Bytes()
			whole := first[:cap(first)]
			for i := range whole {
				whole[i] ^= 0xff
			}
			if !bytes.Equal(second, bytesByTheWords(row)) {
				t.Fatalf("two answers share memory: %x", second)
			}
			sees(t, w, row)
			w.Put(5, 5)
			row += "00101"
			sees(t, w, row)
		}
	}
	w := NewWriter()
	w.Put(1<<64-1, 64)
	w.Cut(0)
	none := w.Bytes()
	whole := none[:cap(none)]
	for i := range whole {
		whole[i] = 0xff
	}
	w.Put(0, 64)
	sees(t, w, lowBits(0, 64))
}

// TestBytesStay: an answer is a row as it was, whatever comes to the writer then.
func TestBytesStay(t *testing.T) {
	w := writerOf("1011")
	b := w.Bytes()
	w.Put(255, 8)
	w.Cut(0)
	if !bytes.Equal(b, []byte{0xb0}) {
		t.Errorf("%x", b)
	}
}

func TestWritersAreApart(t *testing.T) {
	first, second := NewWriter(), NewWriter()
	for i := range 100 {
		first.Put(1<<64-1, i%65)
		second.Put(0, 1)
	}
	first.Cut(30)
	sees(t, first, lowBits(1<<30-1, 30))
	if second.Len() != 100 || !bytes.Equal(second.Bytes(), make([]byte, 13)) {
		t.Errorf("%d bits, %x", second.Len(), second.Bytes())
	}
}

// TestCutsAreCheap: behind a long row that was cut a short one must not cost what the long one did.
func TestCutsAreCheap(t *testing.T) {
	w := NewWriter()
	for range 1 << 20 {
		w.Put(1<<64-1, 64)
	}
	if w.Len() != 1<<26 {
		t.Fatalf("%d bits", w.Len())
	}
	w.Cut(3)
	for range 1 << 18 {
		w.Put(1<<64-1, 64)
		w.Cut(3)
	}
	w.Put(0, 64)
	sees(t, w, "111"+lowBits(0, 64))
}
