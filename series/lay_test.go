package series

import (
	"bytes"
	"math"
	"math/rand"
	"slices"
	"testing"

	"turnkey/api"
)

func lays(t *testing.T, s *Store, tenant string, id int, chunks [][]byte, want api.Errno) {
	t.Helper()
	if e := s.Lay(tenant, id, chunks); e != want {
		t.Fatalf("N4: Lay(%q, %d, %x): %d; want %d", tenant, id, chunks, e, want)
	}
}

// A series that is laid is the same one: all that comes behind it is answered alike.
func TestLayOfChunksIsTheSameSeries(t *testing.T) {
	for seed := range int64(30) {
		r := rand.New(rand.NewSource(seed))
		a, b := newPair(t, 60, name{"a", 0}), newPair(t, 60, name{"a", 0})
		last := int64(0)
		for range 12 {
			a.append(t, name{"a", 0}, someSamples(r, last, r.Intn(50)))
			one, _ := a.store.Last("a", 0)
			last = one.T
			b.drop(t, "a")
			b.lay(t, name{"a", 0}, a.store.Chunks("a", 0))
			more := someSamples(r, last, r.Intn(50))
			a.append(t, name{"a", 0}, more)
			b.append(t, name{"a", 0}, more)
			a.agree(t)
			b.agree(t)
		}
	}
}

func TestLayAtTheEdges(t *testing.T) {
	for _, l := range [][]api.Sample{
		{{}}, {{T: math.MinInt64, V: math.MaxUint64}}, {{T: math.MaxInt64}}, {{T: math.MinInt64}, {T: math.MaxInt64}},
		even(0, 436), even(0, 437), even(0, 438), even(math.MaxInt64-500, 501), even(math.MinInt64, 500),
	} {
		p, s := made(t, 5)
		lays(t, s, "a", math.MaxInt, chunksOf(l), api.OK)
		has(t, s, "a", math.MaxInt, l)
		if p.Used("a") != len(chunksOf(l)) || s.Slots("a") != len(chunksOf(l)) {
			t.Errorf("N4: %d slots for %d chunks", p.Used("a"), len(chunksOf(l)))
		}
	}
}

func TestErrorsOfLayInTheirOrder(t *testing.T) {
	r := rand.New(rand.NewSource(1))
	l := wild(r, 0, 40)
	chunks := chunksOf(l)
	p, s := made(t, len(chunks))
	bad := append(slices.Clone(chunks), nil)
	for _, one := range [][][]byte{nil, {}, bad, chunks, append(slices.Clone(chunks), chunks...)} {
		lays(t, s, "a", -1, one, api.ErrArg)
		lays(t, s, "a", math.MinInt, one, api.ErrArg)
	}
	appends(t, s, "a", 0, l[:1], api.OK)
	for _, one := range [][][]byte{nil, bad, chunks, chunksOf(l[:1])} {
		lays(t, s, "a", 0, one, api.ErrArg)
	}
	lays(t, s, "a", 1, bad, api.ErrChunk)
	lays(t, s, "a", 1, append(slices.Clone(chunks), chunks[0]), api.ErrChunk)
	lays(t, s, "a", 1, chunks, api.ErrPool)
	lays(t, s, "b", 0, chunks, api.ErrPool)
	if p.Left() != len(chunks)-1 || s.Slots("b") != 0 || len(s.tenants) != 1 {
		t.Errorf("N4: what is refused leaves traces: %d are left", p.Left())
	}
	has(t, s, "a", 0, l[:1])
	has(t, s, "a", 1, nil)
	s.Drop("a")
	lays(t, s, "b", 0, chunks, api.OK)
	lays(t, s, "a", 0, chunks[:1], api.ErrPool)
	lays(t, s, "b", 0, chunks, api.ErrArg)
	has(t, s, "b", 0, l)
}

func TestLayOfNoSamples(t *testing.T) {
	p, s := made(t, 3)
	for _, chunks := range [][][]byte{nil, {}, {nil}, {{}}, {nil, nil}, {{0}}, {{}, {0}}} {
		lays(t, s, "a", 0, chunks, api.ErrChunk)
	}
	if p.Left() != 3 || len(s.tenants) != 0 {
		t.Errorf("N4: %d are left", p.Left())
	}
}

// Chunks that hold other numbers of samples than go in, each of which could be read.
func TestLayOfOtherCuts(t *testing.T) {
	l := wild(rand.New(rand.NewSource(2)), 0, 40)
	right := chunksOf(l)
	_, s := made(t, 100)
	for cut := 1; cut < len(l); cut++ {
		chunks := append(chunksOf(l[:cut]), chunksOf(l[cut:])...)
		if slices.EqualFunc(chunks, right, bytes.Equal) {
			continue
		}
		lays(t, s, "a", 0, chunks, api.ErrChunk)
	}
	lays(t, s, "a", 0, [][]byte{bytesOfAll(l)}, api.ErrChunk)
	lays(t, s, "a", 0, [][]byte{bytesOfAll(even(0, 438))}, api.ErrChunk)
	lays(t, s, "a", 0, [][]byte{bytesOfAll(even(0, 436)), bytesOfAll(even(436, 1))}, api.ErrChunk)
	lays(t, s, "a", 0, [][]byte{bytesOfAll(even(0, 437)), bytesOfAll(even(437, 1))}, api.OK)
	for i := range right {
		lays(t, s, "b", 2*i, right[i:], api.OK)
		lays(t, s, "b", 2*i+1, right[:i+1], api.OK)
		s.Drop("b")
	}
}

// Chunks that are cut as they should be, but whose times do not rise.
func TestLayOfTimesThatDoNotRise(t *testing.T) {
	r := rand.New(rand.NewSource(3))
	_, s := made(t, 100)
	for _, l := range [][]api.Sample{
		{{T: 5}, {T: 5}}, {{T: 5}, {T: 4}}, {{T: math.MaxInt64}, {T: math.MinInt64}}, {{T: 1}, {T: 2}, {T: 2}},
	} {
		lays(t, s, "a", 0, chunksOf(l), api.ErrChunk)
	}
	l := wild(r, 0, 30)
	for i := 1; i < len(l); i++ {
		for _, to := range []int64{l[i-1].T, l[i-1].T - 1, math.MinInt64} {
			was := l[i].T
			l[i].T = to
			lays(t, s, "a", 0, chunksOf(l), api.ErrChunk)
			l[i].T = was
		}
	}
	lays(t, s, "a", 0, chunksOf(l), api.OK)
}

// Rows of chunks, with one put twice, left out, put elsewhere, or of another length.
func TestLayOfOtherRows(t *testing.T) {
	right := chunksOf(wild(rand.New(rand.NewSource(4)), 0, 60))
	_, s := made(t, 100)
	for i := range right {
		rows := [][][]byte{slices.Insert(slices.Clone(right), i, right[i]), slices.Insert(slices.Clone(right), i, []byte(nil))}
		if i > 0 && i < len(right)-1 {
			rows = append(rows, slices.Delete(slices.Clone(right), i, i+1))
		}
		if i > 0 {
			swapped := slices.Clone(right)
			swapped[i-1], swapped[i] = swapped[i], swapped[i-1]
			rows = append(rows, swapped)
		}
		for _, b := range [][]byte{right[i][:len(right[i])-1], append(slices.Clone(right[i]), 0), right[i][1:]} {
			row := slices.Clone(right)
			row[i] = b
			rows = append(rows, row)
		}
		for k, row := range rows {
			// What stands behind a chunk that was left out may go on from the one ahead of it only where that one is full then, too.
			want := plain{100, map[name][]api.Sample{}}.layError(name{"a", 0}, row)
			if k < 2 && want != api.ErrChunk {
				t.Fatalf("the words take row %d of %d", k, i)
			}
			lays(t, s, "a", 0, row, want)
			s.Drop("a")
		}
	}
}

// Any bytes: no call panics, and Lay takes just what Append makes.
func TestLayOfAnyBytes(t *testing.T) {
	taken := 0
	for seed := range int64(300) {
		r := rand.New(rand.NewSource(seed))
		a := newPair(t, 20, name{"a", 0})
		chunks := chunksOf(someSamples(r, 0, r.Intn(40)+1))
		for range r.Intn(3) {
			i := r.Intn(len(chunks))
			switch r.Intn(3) {
			case 0:
				chunks[i] = make([]byte, r.Intn(140))
				r.Read(chunks[i])
			default:
				if n := len(chunks[i]); n > 0 {
					chunks[i][r.Intn(n)] ^= 1 << r.Intn(8)
				}
			}
		}
		if a.plain.layError(name{"a", 0}, chunks) == api.OK {
			taken++
		}
		a.lay(t, name{"a", 0}, chunks)
		a.agree(t)
	}
	if taken == 0 || taken == 300 {
		t.Errorf("%d of 300 were taken", taken)
	}
}

// A few bytes that tell very many samples, and one chunk that is far too long.
func TestLayOfLongChunks(t *testing.T) {
	_, s := made(t, 3)
	long := make([]byte, 1<<24)
	lays(t, s, "a", 0, [][]byte{long}, api.ErrChunk)
	copy(long, []byte{0xff, 0xff, 0xff, 0xff, 0xff, 0xff, 0xff, 0xff, 0xff, 0x01})
	lays(t, s, "a", 0, [][]byte{long}, api.ErrChunk)
	lays(t, s, "a", 0, [][]byte{long[:128]}, api.ErrChunk)
	lays(t, s, "a", 0, make([][]byte, 1<<20), api.ErrChunk)
}
