package num

import (
	"bytes"
	"encoding/hex"
	"math"
	"math/big"
	"math/rand"
	"strings"
	"testing"
)

func unhex(t *testing.T, s string) []byte {
	t.Helper()
	b, err := hex.DecodeString(strings.ReplaceAll(s, " ", ""))
	if err != nil {
		t.Fatal(err)
	}
	return b
}

func nineFF(last ...byte) []byte {
	return append(bytes.Repeat([]byte{0xff}, 9), last...)
}

// edges: where the count of bytes changes, and the ends.
func edges() []uint64 {
	out := []uint64{0, 1, 2, 300, math.MaxInt64, math.MaxInt64 + 1, math.MaxUint64 - 1, math.MaxUint64}
	for shift := 1; shift < 64; shift++ {
		p := uint64(1) << shift
		out = append(out, p-1, p, p+1)
	}
	return out
}

// groupsByDivision: the form of chapter 1 by plain division, apart from how the program makes it.
func groupsByDivision(n *big.Int) []byte {
	n = new(big.Int).Set(n)
	base, rest := big.NewInt(128), new(big.Int)
	var out []byte
	for {
		n.DivMod(n, base, rest)
		group := byte(rest.Int64())
		if n.Sign() == 0 {
			return append(out, group)
		}
		out = append(out, group+128)
	}
}

// readByTheWords: Uint as chapter 1 says it, on numbers without a bound.
func readByTheWords(b []byte) (uint64, int) {
	last := 0
	for last < len(b) && b[last] >= 128 {
		last++
	}
	if last == len(b) || b[last] == 0 && last > 0 {
		return 0, 0
	}
	n := new(big.Int)
	for i := last; i >= 0; i-- {
		n.Mul(n, big.NewInt(128))
		n.Add(n, big.NewInt(int64(b[i]%128)))
	}
	if !n.IsUint64() {
		return 0, 0
	}
	return n.Uint64(), last + 1
}

// strangeBytes: rows of bytes of which many are no number's form.
func strangeBytes() [][]byte {
	few := []byte{0x00, 0x01, 0x02, 0x03, 0x7f, 0x80, 0x81, 0xff}
	out := [][]byte{nil, {}}
	level := [][]byte{{}}
	for range 4 {
		var next [][]byte
		for _, head := range level {
			for _, c := range few {
				next = append(next, append(bytes.Clone(head), c))
			}
		}
		out = append(out, next...)
		level = next
	}
	for _, fill := range []byte{0x80, 0x81, 0xff} {
		for size := 5; size <= 12; size++ {
			for _, tail := range level {
				out = append(out, append(bytes.Repeat([]byte{fill}, size-2), tail...))
			}
		}
	}
	for a := range 256 {
		for b := range 256 {
			out = append(out, []byte{byte(a), byte(b)})
		}
		out = append(out, []byte{byte(a)}, nineFF(byte(a)), append(bytes.Repeat([]byte{0x80}, 9), byte(a)))
	}
	return append(out, bytes.Repeat([]byte{0x80}, 1000), bytes.Repeat([]byte{0xff}, 1000))
}

func TestPutUintExamples(t *testing.T) {
	if got := PutUint([]byte{1, 2}, 300); !bytes.Equal(got, []byte{1, 2, 0xac, 0x02}) {
		t.Errorf("A1: PutUint(01 02, 300) = %x", got)
	}
	for n, want := range map[uint64]string{0: "00", 1: "01", 127: "7f", 128: "80 01", 16383: "ff 7f", 16384: "80 80 01"} {
		if got := PutUint(nil, n); !bytes.Equal(got, unhex(t, want)) {
			t.Errorf("A1: PutUint(nil, %d) = %x, not %s", n, got, want)
		}
	}
	if got := PutUint(nil, math.MaxUint64); !bytes.Equal(got, nineFF(1)) {
		t.Errorf("A1: PutUint(nil, 2^64 - 1) = %x", got)
	}
}

func TestPutUintEveryEdge(t *testing.T) {
	for _, n := range edges() {
		want := groupsByDivision(new(big.Int).SetUint64(n))
		if got := PutUint(nil, n); !bytes.Equal(got, want) {
			t.Errorf("A1: PutUint(nil, %d) = %x, not %x", n, got, want)
		}
	}
}

func TestUintExamples(t *testing.T) {
	cases := []struct {
		b    []byte
		n    uint64
		size int
	}{
		{unhex(t, "80 01 07"), 128, 2},
		{unhex(t, "80 00"), 0, 0},
		{unhex(t, "80"), 0, 0},
		{nil, 0, 0},
		{[]byte{}, 0, 0},
		{unhex(t, "00"), 0, 1},
		{unhex(t, "00 00"), 0, 1},
		{unhex(t, "7f ff"), 127, 1},
		{nineFF(1), math.MaxUint64, 10},
		{nineFF(1, 0), math.MaxUint64, 10},
		{nineFF(2), 0, 0},
		{nineFF(0), 0, 0},
		{nineFF(0x7f), 0, 0},
		{nineFF(0x80, 0), 0, 0},
		{nineFF(0x81, 0), 0, 0},
		{nineFF(0x80, 1), 0, 0},
		{nineFF(), 0, 0},
	}
	for _, c := range cases {
		if n, size := Uint(c.b); n != c.n || size != c.size {
			t.Errorf("A1: Uint(%x) = %d, %d, not %d, %d", c.b, n, size, c.n, c.size)
		}
	}
}

func TestUintStrangeBytes(t *testing.T) {
	for _, b := range strangeBytes() {
		wantN, wantSize := readByTheWords(b)
		n, size := Uint(b)
		if n != wantN || size != wantSize {
			t.Fatalf("A1: Uint(%x) = %d, %d, not %d, %d", b, n, size, wantN, wantSize)
		}
		if size > 0 && !bytes.Equal(PutUint(nil, n), b[:size]) {
			t.Fatalf("A1: PutUint(Uint(%x)) = %x", b, PutUint(nil, n))
		}
	}
}

func TestUintThereAndBack(t *testing.T) {
	for _, n := range edges() {
		form := PutUint(nil, n)
		for _, behind := range []string{"", "\x00", "\x01", "\x80", "\xff\xff"} {
			b := append(bytes.Clone(form), behind...)
			if got, size := Uint(b); got != n || size != len(form) {
				t.Errorf("A1: Uint(%x) = %d, %d, not %d, %d", b, got, size, n, len(form))
			}
		}
		for cut := range len(form) {
			if got, size := Uint(form[:cut]); got != 0 || size != 0 {
				t.Errorf("A1: Uint(%x), which ends within, = %d, %d", form[:cut], got, size)
			}
		}
	}
}

func TestPutIntExamples(t *testing.T) {
	for n, want := range map[int64]string{0: "00", -1: "01", 1: "02", -64: "7f", 64: "80 01", -65: "81 01", 63: "7e"} {
		if got := PutInt(nil, n); !bytes.Equal(got, unhex(t, want)) {
			t.Errorf("A2: PutInt(nil, %d) = %x, not %s", n, got, want)
		}
	}
	if got := PutInt(nil, math.MinInt64); !bytes.Equal(got, nineFF(1)) {
		t.Errorf("A2: PutInt(nil, -2^63) = %x", got)
	}
	if got := PutInt([]byte{1, 2}, math.MaxInt64); !bytes.Equal(got, append([]byte{1, 2, 0xfe}, nineFF(1)[1:]...)) {
		t.Errorf("A2: PutInt(01 02, 2^63 - 1) = %x", got)
	}
}

func TestIntThereAndBack(t *testing.T) {
	for _, u := range edges() {
		for _, n := range []int64{int64(u), -int64(u)} {
			folded := big.NewInt(n)
			folded.Mul(folded, big.NewInt(2))
			if n < 0 {
				folded.Neg(folded).Sub(folded, big.NewInt(1))
			}
			form := PutInt(nil, n)
			if want := groupsByDivision(folded); !bytes.Equal(form, want) {
				t.Errorf("A2: PutInt(nil, %d) = %x, not %x", n, form, want)
			}
			if got, size := Int(append(bytes.Clone(form), 0xff)); got != n || size != len(form) {
				t.Errorf("A2: Int(%x ff) = %d, %d, not %d, %d", form, got, size, n, len(form))
			}
		}
	}
}

func TestIntStrangeBytes(t *testing.T) {
	for _, b := range strangeBytes() {
		_, wantSize := readByTheWords(b)
		n, size := Int(b)
		if size != wantSize || size == 0 && n != 0 {
			t.Fatalf("A2: Int(%x) = %d, %d, not %d bytes", b, n, size, wantSize)
		}
		if size > 0 && !bytes.Equal(PutInt(nil, n), b[:size]) {
			t.Fatalf("A2: PutInt(Int(%x)) = %x", b, PutInt(nil, n))
		}
	}
}

func TestPutBytesExamples(t *testing.T) {
	if got := PutBytes(nil, []byte("ab")); !bytes.Equal(got, unhex(t, "02 61 62")) {
		t.Errorf("A3: PutBytes(nil, ab) = %x", got)
	}
	if got := PutBytes([]byte{9}, nil); !bytes.Equal(got, []byte{9, 0}) {
		t.Errorf("A3: PutBytes(09, nothing) = %x", got)
	}
	long := bytes.Repeat([]byte{7}, 128)
	if got := PutBytes([]byte{9}, long); !bytes.Equal(got, append([]byte{9, 0x80, 1}, long...)) {
		t.Errorf("A3: PutBytes(09, 128 bytes) = %x", got)
	}
}

func TestBytesExamples(t *testing.T) {
	huge := append(nineFF(1), 'a')
	cases := []struct {
		b    []byte
		most int
		want string
		size int
	}{
		{unhex(t, "02 61 62"), 2, "ab", 3},
		{unhex(t, "02 61 62 63"), 2, "ab", 3},
		{unhex(t, "02 61 62"), math.MaxInt, "ab", 3},
		{unhex(t, "02 61 62"), 1, "", 0},
		{unhex(t, "02 61 62"), 0, "", 0},
		{unhex(t, "02 61 62"), -1, "", 0},
		{unhex(t, "02 61 62"), math.MinInt, "", 0},
		{unhex(t, "03 61 62"), 3, "", 0},
		{unhex(t, "03 61 62"), 2, "", 0},
		{unhex(t, "00"), 0, "", 1},
		{unhex(t, "00"), 5, "", 1},
		{unhex(t, "00"), -1, "", 0},
		{unhex(t, "00 61"), 5, "", 1},
		{unhex(t, "82 00 61 62"), 5, "", 0},
		{unhex(t, "82"), 5, "", 0},
		{nil, 5, "", 0},
		{huge, math.MaxInt, "", 0},
		{huge, -1, "", 0},
		{append(PutUint(nil, math.MaxInt64), 'a'), math.MaxInt, "", 0},
		{append(PutUint(nil, math.MaxInt64+1), 'a'), math.MaxInt, "", 0},
		{append(PutUint(nil, 1<<32+1), 'a'), math.MaxInt, "", 0},
	}
	for _, c := range cases {
		got, size := Bytes(c.b, c.most)
		if string(got) != c.want || size != c.size {
			t.Errorf("A3: Bytes(%x, %d) = %q, %d, not %q, %d", c.b, c.most, got, size, c.want, c.size)
		}
		if size == 0 && got != nil {
			t.Errorf("P2: Bytes(%x, %d) tells of no bytes, and answers a list", c.b, c.most)
		}
	}
}

func TestBytesThereAndBack(t *testing.T) {
	r := rand.New(rand.NewSource(1))
	for _, size := range []int{0, 1, 2, 63, 64, 127, 128, 129, 300, 16383, 16384, 70000} {
		s := make([]byte, size)
		r.Read(s)
		form := PutBytes(nil, s)
		for _, behind := range []string{"", "\x00", "\xff\x80"} {
			got, n := Bytes(append(bytes.Clone(form), behind...), size)
			if !bytes.Equal(got, s) || n != len(form) {
				t.Errorf("A3: Bytes of PutBytes of %d bytes: %d bytes, %d", size, len(got), n)
			}
		}
		if got, n := Bytes(form[:len(form)-1], size); got != nil || n != 0 {
			t.Errorf("A3: Bytes of all but the last of %d bytes: %d, %d", size, len(got), n)
		}
		if got, n := Bytes(form, size-1); got != nil || n != 0 {
			t.Errorf("A3: Bytes of %d bytes, less one allowed: %d, %d", size, len(got), n)
		}
	}
}

func TestBytesStrangeBytes(t *testing.T) {
	for _, b := range strangeBytes() {
		for _, most := range []int{-1, 0, 1, 2, 3, math.MaxInt} {
			count, head := readByTheWords(b)
			there := head > 0 && most >= 0 && count <= uint64(most) && count <= uint64(len(b)-head)
			got, size := Bytes(b, most)
			if there && (size != head+int(count) || !bytes.Equal(got, b[head:size]) || !bytes.Equal(PutBytes(nil, got), b[:size])) {
				t.Fatalf("A3: Bytes(%x, %d) = %x, %d", b, most, got, size)
			}
			if !there && (got != nil || size != 0) {
				t.Fatalf("A3: Bytes(%x, %d) = %x, %d, not nothing", b, most, got, size)
			}
		}
	}
}

func TestNoFormBeginsAnother(t *testing.T) {
	apart := func(what string, forms [][]byte) {
		for i, a := range forms {
			for j, b := range forms {
				if i != j && !bytes.Equal(a, b) && bytes.HasPrefix(b, a) {
					t.Errorf("%s: %x is the beginning of %x", what, a, b)
				}
			}
		}
	}
	var uints, ints, texts [][]byte
	for _, n := range edges() {
		uints = append(uints, PutUint(nil, n))
		ints = append(ints, PutInt(nil, int64(n)))
	}
	for size := range 200 {
		texts = append(texts, PutBytes(nil, make([]byte, size)))
	}
	apart("A1", uints)
	apart("A2", ints)
	apart("A3", texts)
}

// guarded: some bytes with spare room behind them, all of which must stay as it is.
func guarded(s string) []byte {
	room := bytes.Repeat([]byte{0xee}, len(s)+64)
	copy(room, s)
	return room[:len(s)]
}

func untouched(b []byte, s string) bool {
	whole := b[:cap(b)]
	return string(whole[:len(s)]) == s && bytes.Count(whole[len(s):], []byte{0xee}) == 64
}

func scribble(b []byte) {
	b = b[:cap(b)]
	for i := range b {
		b[i] = 0x55
	}
}

func TestPutsAnswerNewMemory(t *testing.T) {
	puts := map[string]func(b, s []byte) []byte{
		"PutUint":      func(b, s []byte) []byte { return PutUint(b, 300) },
		"PutUint of 0": func(b, s []byte) []byte { return PutUint(b, 0) },
		"PutInt":       func(b, s []byte) []byte { return PutInt(b, -300) },
		"PutBytes":     func(b, s []byte) []byte { return PutBytes(b, s) },
		"PutBytes, no": func(b, s []byte) []byte { return PutBytes(b, s[:0]) },
	}
	for name, put := range puts {
		for _, head := range []string{"", "head"} {
			b, s := guarded(head), guarded("text")
			first, second := put(b, s), put(b, s)
			want := string(second)
			scribble(first)
			if !untouched(b, head) || !untouched(s, "text") || string(second) != want {
				t.Errorf("P3: %s behind %q shares memory", name, head)
			}
			scribble(b)
			scribble(s)
			if string(second) != want {
				t.Errorf("P3: %s behind %q keeps what it was given", name, head)
			}
		}
	}
}

func TestPutBytesOfItself(t *testing.T) {
	b := guarded("abc")
	if got := PutBytes(b, b[1:]); string(got) != "abc\x02bc" || !untouched(b, "abc") {
		t.Errorf("P3: PutBytes of a part of itself = %q", got)
	}
	if got := PutBytes(b[:1], b); string(got) != "a\x03abc" || !untouched(b, "abc") {
		t.Errorf("P3: PutBytes of what stands behind = %q", got)
	}
}

func TestReadsAnswerNewMemory(t *testing.T) {
	for _, form := range []string{"\x04text", "\x00", "\x04textmore"} {
		b := guarded(form)
		first, _ := Bytes(b, 4)
		second, _ := Bytes(b, 4)
		want := string(second)
		scribble(first)
		if !untouched(b, form) || string(second) != want {
			t.Errorf("P3: Bytes(%q) shares memory", form)
		}
		scribble(b)
		if string(second) != want {
			t.Errorf("P3: Bytes(%q) keeps what it was given", form)
		}
	}
	b := guarded("\x80\x01\x07")
	Uint(b)
	Int(b)
	if !untouched(b, "\x80\x01\x07") {
		t.Error("P3: a number that is read is written into")
	}
}

func TestSameCallSameAnswer(t *testing.T) {
	for _, b := range strangeBytes()[:600] {
		n, size := Uint(b)
		m, width := Int(b)
		s, whole := Bytes(b, 2)
		PutUint(b, n)
		PutInt(b, m)
		PutBytes(b, s)
		n2, size2 := Uint(b)
		m2, width2 := Int(b)
		s2, whole2 := Bytes(b, 2)
		if n != n2 || size != size2 || m != m2 || width != width2 || whole != whole2 || !bytes.Equal(s, s2) {
			t.Fatalf("P4: of %x another answer the second time", b)
		}
	}
}
