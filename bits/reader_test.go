package bits

import (
	"bytes"
	"math"
	"math/rand"
	"testing"
)

func TestExamplesOfReader(t *testing.T) {
	r := NewReader([]byte{0xb8, 0x10})
	if r.Left() != 16 {
		t.Fatalf("%d bits left", r.Left())
	}
	for _, c := range []struct {
		n    int
		v    uint64
		ok   bool
		left int
	}{
		{3, 5, true, 13},
		{1, 1, true, 12},
		{9, 258, true, 3},
		{4, 0, false, 3},
		{65, 0, false, 3},
		{-1, 0, false, 3},
		{0, 0, true, 3},
		{3, 0, true, 0},
		{1, 0, false, 0},
		{0, 0, true, 0},
	} {
		if v, ok := r.Get(c.n); v != c.v || ok != c.ok || r.Left() != c.left {
			t.Fatalf("Get(%d): %d, %v, %d left; want %d, %v, %d", c.n, v, ok, r.Left(), c.v, c.ok, c.left)
		}
	}
}

func TestGetAtEveryPlace(t *testing.T) {
	for _, b := range [][]byte{
		{0x9a, 0xe5, 0x80, 0x01, 0x23, 0x45, 0x67, 0x89, 0xab, 0xcd, 0xef},
		bytes.Repeat([]byte{0xff}, 11),
		make([]byte, 11),
	} {
		row := rowOf(b)
		for ahead := range 18 {
			for n := range 65 {
				r := NewReader(b)
				r.Get(ahead)
				v, ok := r.Get(n)
				if want := numberOf(t, row[ahead:ahead+n]); v != want || !ok || r.Left() != len(row)-ahead-n {
					t.Fatalf("%x at %d: Get(%d): %d, %v, %d left; want %d", b, ahead, n, v, ok, r.Left(), want)
				}
			}
		}
	}
}

// TestGetOfWhatIsNotThere: it stays where it is.
func TestGetOfWhatIsNotThere(t *testing.T) {
	for count := range 12 {
		b := bytes.Repeat([]byte{0xff}, count)
		for ahead := range min(count*8, 64) + 1 {
			r := NewReader(b)
			r.Get(ahead)
			left := count*8 - ahead
			for _, n := range []int{-1, -64, math.MinInt64, left + 1, left + 8, max(left+1, 64), 65, 72, math.MaxInt64} {
				if v, ok := r.Get(n); v != 0 || ok || r.Left() != left {
					t.Fatalf("%d left: Get(%d): %d, %v, %d left", left, n, v, ok, r.Left())
				}
			}
		}
	}
}

func TestGetOfTooMany(t *testing.T) {
	r := NewReader(bytes.Repeat([]byte{0xff}, 100))
	for _, n := range []int{65, 66, 128, 800, -1, -65, math.MaxInt64, math.MinInt64} {
		if v, ok := r.Get(n); v != 0 || ok || r.Left() != 800 {
			t.Fatalf("Get(%d): %d, %v, %d left", n, v, ok, r.Left())
		}
	}
	if v, ok := r.Get(64); v != 1<<64-1 || !ok || r.Left() != 736 {
		t.Fatalf("Get(64): %d, %v, %d left", v, ok, r.Left())
	}
}

func TestReaderOfNothing(t *testing.T) {
	for _, b := range [][]byte{nil, {}} {
		r := NewReader(b)
		for _, n := range []int{0, 1, 8, 64, -1, 0} {
			if v, ok := r.Get(n); v != 0 || ok != (n == 0) || r.Left() != 0 {
				t.Errorf("Get(%d): %d, %v, %d left", n, v, ok, r.Left())
			}
		}
	}
}

func TestGetsInARow(t *testing.T) {
	rnd := rand.New(rand.NewSource(4))
	for range 300 {
		b := make([]byte, rnd.Intn(60))
		rnd.Read(b)
		r, row := NewReader(b), rowOf(b)
		for range 40 {
			n := rnd.Intn(70) - 3
			v, ok := r.Get(n)
			var want uint64
			there := n >= 0 && n <= 64 && n <= len(row)
			if there {
				want, row = numberOf(t, row[:n]), row[n:]
			}
			if v != want || ok != there || r.Left() != len(row) {
				t.Fatalf("Get(%d): %d, %v, %d left; want %d, %v, %d", n, v, ok, r.Left(), want, there, len(row))
			}
		}
	}
}

// TestReaderHasACopy: what was handed in is its owner's, who may go on writing into it.
func TestReaderHasACopy(t *testing.T) {
	b := []byte{0xb8, 0x10, 0x77}
	r := NewReader(b[:2])
	r.Get(3)
	b[0], b[1] = 0xff, 0xff
	if v, ok := r.Get(13); v != 0x1810 || !ok {
		t.Errorf("%x, %v", v, ok)
	}
	if !bytes.Equal(b, []byte{0xff, 0xff, 0x77}) {
		t.Errorf("written into: %x", b)
	}
}

func TestReadersAreApart(t *testing.T) {
	b := []byte{0xb8, 0x10}
	first, second := NewReader(b), NewReader(b)
	first.Get(9)
	if v, ok := second.Get(3); v != 5 || !ok || first.Left() != 7 || second.Left() != 13 {
		t.Errorf("%d, %v, %d and %d left", v, ok, first.Left(), second.Left())
	}
}
