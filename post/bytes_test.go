package post

import (
	"bytes"
	"encoding/binary"
	"encoding/hex"
	"math"
	"math/big"
	"math/rand"
	"slices"
	"strings"
	"testing"
)

func unhex(t *testing.T, s string) []byte {
	t.Helper()
	b, err := hex.DecodeString(strings.ReplaceAll(s, " ", ""))
	if err != nil {
		t.Fatal(err)
	}
	return b
}

// plainBytes: the chapter's form, by the library's numbers (which have the same form where they are written).
func plainBytes(l []uint32) []byte {
	out := binary.AppendUvarint(nil, uint64(len(l)))
	for i, n := range l {
		if i == 0 {
			out = binary.AppendUvarint(out, uint64(n))
		} else {
			out = binary.AppendUvarint(out, uint64(n)-uint64(l[i-1])-1)
		}
	}
	return out
}

// plainUint: num's form, by numbers without a bound; a size of 0: none stands there.
func plainUint(b []byte) (*big.Int, int) {
	last := 0
	for last < len(b) && b[last] >= 128 {
		last++
	}
	if last == len(b) || b[last] == 0 && last > 0 {
		return nil, 0
	}
	n := new(big.Int)
	for i := last; i >= 0; i-- {
		n.Add(n.Mul(n, big.NewInt(128)), big.NewInt(int64(b[i]%128)))
	}
	if !n.IsUint64() {
		return nil, 0
	}
	return n, last + 1
}

// plainGet: Get as the chapter says it, by numbers without a bound.
func plainGet(b []byte) ([]uint32, int) {
	count, at := plainUint(b)
	if at == 0 || count.Cmp(big.NewInt(int64(len(b)-at))) > 0 {
		return nil, 0
	}
	last := big.NewInt(-1)
	out := []uint32{}
	for range count.Int64() {
		gap, size := plainUint(b[at:])
		if size == 0 {
			return nil, 0
		}
		last = gap.Add(gap, last.Add(last, big.NewInt(1)))
		if last.Cmp(big.NewInt(most)) > 0 {
			return nil, 0
		}
		out = append(out, uint32(last.Uint64()))
		at += size
	}
	return out, at
}

// checkGet holds Get against the plain one; what it takes, Put writes again.
func checkGet(t *testing.T, b []byte) {
	t.Helper()
	was := bytes.Clone(b)
	l, n := Get(b)
	want, size := plainGet(b)
	if n != size || !slices.Equal(l, want) || size == 0 && l != nil {
		t.Fatalf("L4: Get(%x) = %v, %d; want %v, %d", b, l, n, want, size)
	}
	if !bytes.Equal(b, was) {
		t.Fatalf("P3: %x became %x", was, b)
	}
	if n == 0 {
		return
	}
	if again, ok := Put(nil, l); !ok || !bytes.Equal(again, b[:n]) {
		t.Fatalf("L4: Get(%x) is written again as %x, %v", b, again, ok)
	}
}

// checkPut holds Put against the plain form; Get takes it, whatever stands behind it, and no strict beginning of it.
func checkPut(t *testing.T, l []uint32) {
	t.Helper()
	form := plainBytes(l)
	for _, head := range []string{"", "\x09", "\x80\x00", "head"} {
		if got, ok := Put([]byte(head), l); !ok || string(got) != head+string(form) {
			t.Fatalf("L4: Put(%q, %v) = %x, %v; want %x", head, l, got, ok, form)
		}
	}
	for _, tail := range []string{"", "\x00", "\x01", "\x80", "\xff\xff", "tail"} {
		if got, n := Get(append(bytes.Clone(form), tail...)); !slices.Equal(got, l) || n != len(form) {
			t.Fatalf("L4: Get of %x and %x: %v, %d; want %v", form, tail, got, n, l)
		}
	}
	for size := range form {
		if got, n := Get(form[:size]); got != nil || n != 0 {
			t.Fatalf("L4: Get of %x: %v, %d", form[:size], got, n)
		}
	}
}

func TestExamplesOfBytes(t *testing.T) {
	if b, ok := Put(nil, []uint32{1, 3, most}); !ok || !bytes.Equal(b, unhex(t, "03 01 01 fb ff ff ff 0f")) {
		t.Errorf("L4: Put: %x, %v", b, ok)
	}
	if l, n := Get(unhex(t, "02 01 00 09")); !slices.Equal(l, []uint32{1, 2}) || n != 3 {
		t.Errorf("L4: Get: %v, %d", l, n)
	}
	if l, n := Get([]byte{0}); len(l) != 0 || n != 1 {
		t.Errorf("L4: Get of 00: %v, %d", l, n)
	}
	for _, s := range []string{"02 01", "01 80 80 80 80 10", "02 ff ff ff ff 0f 00"} {
		if l, n := Get(unhex(t, s)); l != nil || n != 0 {
			t.Errorf("L4: Get of %s: %v, %d", s, l, n)
		}
	}
}

func TestPutOfWhatDoesNotRise(t *testing.T) {
	for _, l := range [][]uint32{{0, 0}, {1, 0}, {most, most}, {most, 0}, {1, 2, 2}, {1, 2, 1}, {5, 3, 4}} {
		for _, b := range [][]byte{nil, {}, []byte("head")} {
			if got, ok := Put(b, l); got != nil || ok {
				t.Errorf("L4: Put(%q, %v) = %x, %v", b, l, got, ok)
			}
		}
	}
}

func TestPutOfAllSubsets(t *testing.T) {
	for _, l := range subsets(0, 1, 127, 128, 129, 1<<14+129, 1<<31, most-128, most-1, most) {
		checkPut(t, l)
	}
}

func TestPutOfSomeLists(t *testing.T) {
	r := rand.New(rand.NewSource(17))
	for range 1000 {
		bound := []int64{10, 300, 1 << 20, 1 << 32}[r.Intn(4)]
		checkPut(t, someList(r, r.Intn(40), bound))
	}
	// The count has two bytes from 128 on.
	for _, size := range []int{127, 128, 129, 300} {
		checkPut(t, upTo(size, 1))
		checkPut(t, upTo(size, 129))
	}
}

func TestGetOfAllShortBytes(t *testing.T) {
	few := []byte{0x00, 0x01, 0x02, 0x03, 0x0f, 0x10, 0x7f, 0x80, 0xff}
	level := [][]byte{{}}
	for range 6 {
		for _, b := range level {
			checkGet(t, b)
		}
		var next [][]byte
		for _, b := range level {
			for _, c := range few {
				next = append(next, append(bytes.Clone(b), c))
			}
		}
		level = next
	}
	checkGet(t, nil)
}

// Sums of gaps at the greatest number, and at where numbers of 64 bits would wrap round.
func TestGetAtTheEdges(t *testing.T) {
	gaps := []uint64{0, 1, 2, 1<<31 - 1, 1 << 31, most - 2, most - 1, most, most + 1, most + 2, 1 << 33, 1 << 63,
		math.MaxUint64 - most - 1, math.MaxUint64 - most, math.MaxUint64 - 2, math.MaxUint64 - 1, math.MaxUint64}
	for _, one := range gaps {
		checkGet(t, binary.AppendUvarint([]byte{1}, one))
		for _, two := range gaps {
			b := binary.AppendUvarint(binary.AppendUvarint(nil, one), two)
			checkGet(t, append([]byte{2}, b...))
			for _, three := range gaps {
				checkGet(t, binary.AppendUvarint(append([]byte{3}, b...), three))
			}
		}
	}
}

// More numbers than bytes are left: it is told ahead of all else, and no room is made for them.
func TestGetOfTooGreatCounts(t *testing.T) {
	for _, count := range []uint64{1, 2, 4, 5, 127, 128, most, most + 1, 1 << 62, 1<<63 - 1, 1 << 63, 1<<64 - 1} {
		for left := range 6 {
			b := append(binary.AppendUvarint(nil, count), make([]byte, left)...)
			checkGet(t, b)
			if l, n := Get(b); (n != 0) != (count <= uint64(left)) {
				t.Errorf("L4: Get of %x: %v, %d", b, l, n)
			}
		}
	}
}

func TestGetOfSomeBytes(t *testing.T) {
	r := rand.New(rand.NewSource(18))
	for range 20000 {
		b := make([]byte, r.Intn(30))
		for i := range b {
			b[i] = byte(r.Intn(256))
			if r.Intn(3) > 0 {
				b[i] %= 8
			}
		}
		checkGet(t, b)
		// A right form of which one byte is another one.
		b = plainBytes(someList(r, 1+r.Intn(10), 1<<32))
		b[r.Intn(len(b))] = byte(r.Intn(256))
		checkGet(t, b)
	}
}

func TestPutAnswersNewMemory(t *testing.T) {
	for _, head := range []string{"", "h", "head"} {
		for _, numbers := range [][]uint32{nil, {}, {7}, {1, 3, 500}} {
			b, l := append([]byte(head), "room enough for all of it"...)[:len(head)], guarded(numbers)
			first, _ := Put(b, l)
			second, _ := Put(b, l)
			want := head + string(plainBytes(numbers))
			scribble(first)
			if string(second) != want || string(b[:cap(b)][:len(head)+4]) != head+"room" || !untouched(l, numbers) {
				t.Errorf("P3: Put(%q, %v) shares memory", head, numbers)
			}
			scribble(b)
			scribble(l)
			if string(second) != want {
				t.Errorf("P3: Put(%q, %v) keeps what it was given", head, numbers)
			}
		}
	}
}

func TestGetAnswersNewMemory(t *testing.T) {
	b := plainBytes([]uint32{1, 3, 500})
	first, _ := Get(b)
	second, _ := Get(b)
	scribble(first)
	scribble(b)
	if !slices.Equal(second, []uint32{1, 3, 500}) {
		t.Errorf("P3: Get: %v", second)
	}
}

func TestGreatListsAreCheap(t *testing.T) {
	l := upTo(2_000_000, 2000)
	b, ok := Put([]byte("head"), l)
	if !ok {
		t.Fatal("L4: Put")
	}
	if got, n := Get(b[4:]); n != len(b)-4 || !slices.Equal(got, l) {
		t.Errorf("L4: Get of %d bytes: %d numbers, %d bytes", len(b)-4, len(got), n)
	}
}
