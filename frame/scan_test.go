package frame

import (
	"bytes"
	"iter"
	"math/rand"
	"testing"
)

type record struct {
	kind byte
	data string
}

// scanned is what Scan tells; its data is written over at once, as the caller may.
func scanned(seq iter.Seq2[byte, []byte]) []record {
	var out []record
	for kind, data := range seq {
		out = append(out, record{kind, string(data)})
		scribble(data)
	}
	return out
}

// inRow: the frames with which bytes begin, each found by trying all beginnings.
func inRow(b []byte) (out []record, size int) {
	for {
		kind, data, n := beginning(b[size:])
		if n == 0 {
			return out, size
		}
		out = append(out, record{kind, string(data)})
		size += n
	}
}

func same(a, b []record) bool {
	if len(a) != len(b) {
		return false
	}
	for i := range a {
		if a[i] != b[i] {
			return false
		}
	}
	return true
}

func rowOf(records ...record) []byte {
	var out []byte
	for _, r := range records {
		out = append(out, framed(r.kind, []byte(r.data))...)
	}
	return out
}

func TestScan(t *testing.T) {
	records := []record{{0, ""}, {255, "zwei"}, {3, "drei"}, {3, ""}, {0, "\x00\x00"}}
	row := rowOf(records...)
	for _, tail := range [][]byte{nil, {0}, {3, 1, 0, 0, 0, 'x'}, make([]byte, 40), framed(1, []byte("ab"))[:10]} {
		b := append(bytes.Clone(row), tail...)
		if got := Whole(b); got != len(row) {
			t.Errorf("Whole, %d bytes behind the frames: %d, want %d", len(tail), got, len(row))
		}
		if got := scanned(Scan(b)); !same(got, records) {
			t.Errorf("Scan, %d bytes behind the frames: %v", len(tail), got)
		}
	}
	for _, b := range [][]byte{nil, {}, {1}, make([]byte, 9), make([]byte, 1000), append([]byte{7}, row...)} {
		if n, got := Whole(b), scanned(Scan(b)); n != 0 || got != nil {
			t.Errorf("%x begins with no frame: Whole %d, Scan %v", b, n, got)
		}
	}
}

// A broken frame ends the row: the whole ones behind it do not count.
func TestScanEndsAtABrokenFrame(t *testing.T) {
	records := []record{{1, "a"}, {2, "bc"}, {3, ""}, {4, "d"}}
	row := rowOf(records...)
	for i := range row {
		b := bytes.Clone(row)
		b[i] ^= 1
		want, size := inRow(b)
		if got := scanned(Scan(b)); !same(got, want) || Whole(b) != size {
			t.Fatalf("the byte %d is turned: %v, %d; want %v, %d", i, got, Whole(b), want, size)
		}
		want, size = inRow(row[:i])
		if got := scanned(Scan(row[:i])); !same(got, want) || Whole(row[:i]) != size {
			t.Fatalf("the first %d bytes: %v, %d; want %v, %d", i, got, Whole(row[:i]), want, size)
		}
	}
}

func TestScanIsOfThenAndStopsAndGoesAgain(t *testing.T) {
	records := []record{{1, "one"}, {2, "two"}, {3, "three"}}
	b := rowOf(records...)
	seq := Scan(b)
	scribble(b)
	for stop := 1; stop <= len(records); stop++ {
		var got []record
		for kind, data := range seq {
			got = append(got, record{kind, string(data)})
			scribble(data)
			if len(got) == stop {
				break
			}
		}
		if !same(got, records[:stop]) {
			t.Fatalf("stopped at %d: %v", stop, got)
		}
	}
	for range 2 {
		if got := scanned(seq); !same(got, records) {
			t.Fatalf("gone through again: %v", got)
		}
	}
}

// Two who go through one Scan, one within the other, have nothing to do with one another.
func TestScanWithinItself(t *testing.T) {
	records := []record{{1, "one"}, {2, "two"}, {3, ""}}
	seq := Scan(rowOf(records...))
	var outer []record
	for kind, data := range seq {
		if inner := scanned(seq); !same(inner, records) {
			t.Fatalf("gone through within: %v", inner)
		}
		outer = append(outer, record{kind, string(data)})
	}
	if !same(outer, records) {
		t.Fatalf("gone through around: %v", outer)
	}
}

func TestScanWritesIntoNothing(t *testing.T) {
	room := append(rowOf(record{1, "one"}, record{2, "two"}), "behind"...)
	was := bytes.Clone(room)
	b := room[:len(room)-6]
	for range 2 {
		scanned(Scan(b))
		Whole(b)
	}
	if !bytes.Equal(room, was) {
		t.Fatalf("what was handed in was written into: %x", room)
	}
}

func TestScanOfNoise(t *testing.T) {
	r := rand.New(rand.NewSource(6))
	for range 3000 {
		var b []byte
		for range r.Intn(6) {
			b = append(b, framed(byte(r.Intn(3)), noise(r, r.Intn(6)))...)
		}
		b = append(b, noise(r, r.Intn(12))...)
		if len(b) > 0 && r.Intn(2) == 0 {
			b[r.Intn(len(b))] ^= byte(1 << r.Intn(8))
		}
		want, size := inRow(b)
		if got := scanned(Scan(b)); !same(got, want) || Whole(b) != size {
			t.Fatalf("%x: %v, %d; want %v, %d", b, got, Whole(b), want, size)
		}
	}
}

func TestWholeOfMuch(t *testing.T) {
	var b []byte
	for i := range 20000 {
		b = append(b, framed(byte(i), make([]byte, i%50))...)
	}
	if got := Whole(append(b, 1, 2, 3)); got != len(b) {
		t.Fatalf("Whole: %d, want %d", got, len(b))
	}
	big := append(framed(1, make([]byte, mostData)), framed(2, []byte("a"))...)
	if got := Whole(big); got != len(big) {
		t.Fatalf("Whole of the greatest frame and another: %d, want %d", got, len(big))
	}
}
