package series

import (
	"bytes"
	"fmt"
	"math"
	"math/rand"
	"slices"
	"testing"

	"turnkey/api"
	"turnkey/chunk"
	"turnkey/pool"
)

// name is how a series is known.
type name struct {
	tenant string
	id     int
}

// plain is a store by the chapter's words: of each series the list of its samples, cut into chunks each time.
type plain struct {
	slots  int
	series map[name][]api.Sample
}

// bytesOfAll are those of a chunk that has room for all.
func bytesOfAll(l []api.Sample) []byte {
	c := chunk.New(math.MaxInt)
	for _, one := range l {
		c.Append(one.T, one.V)
	}
	return c.Bytes()
}

// chunksOf: as many samples as go in, from the first that the chunk ahead did not take.
func chunksOf(l []api.Sample) [][]byte {
	var out [][]byte
	for len(l) > 0 {
		n := 1
		for n < len(l) && len(bytesOfAll(l[:n+1])) <= api.SlotBytes {
			n++
		}
		out = append(out, bytesOfAll(l[:n]))
		l = l[n:]
	}
	return out
}

func rises(l []api.Sample) bool {
	for i := 1; i < len(l); i++ {
		if l[i].T <= l[i-1].T {
			return false
		}
	}
	return true
}

// with is a series behind some samples.
func (p plain) with(n name, l []api.Sample) []api.Sample {
	return append(slices.Clone(p.series[n]), l...)
}

func (p plain) needs(n name, l []api.Sample) (int, api.Errno) {
	if n.id < 0 {
		return 0, api.ErrArg
	}
	if !rises(p.with(n, l)) {
		return 0, api.ErrStale
	}
	return len(chunksOf(p.with(n, l))) - len(chunksOf(p.series[n])), api.OK
}

func (p plain) append(n name, l []api.Sample) api.Errno {
	more, e := p.needs(n, l)
	if e == api.OK && more > p.left() {
		e = api.ErrPool
	}
	if e == api.OK && len(l) > 0 {
		p.series[n] = p.with(n, l)
	}
	return e
}

func (p plain) between(n name, from, to int64) []api.Sample {
	var out []api.Sample
	for _, one := range p.series[n] {
		if from <= one.T && one.T <= to {
			out = append(out, one)
		}
	}
	return out
}

func (p plain) used(tenant string) int {
	count := 0
	for n, l := range p.series {
		if n.tenant == tenant {
			count += len(chunksOf(l))
		}
	}
	return count
}

func (p plain) left() int {
	left := p.slots
	for _, l := range p.series {
		left -= len(chunksOf(l))
	}
	return left
}

func (p plain) lay(n name, chunks [][]byte) api.Errno {
	if n.id < 0 || len(p.series[n]) > 0 {
		return api.ErrArg
	}
	var l []api.Sample
	for _, b := range chunks {
		some, e := chunk.Read(b)
		if e != api.OK {
			return api.ErrChunk
		}
		l = append(l, some...)
	}
	if len(l) == 0 || !rises(l) || !slices.EqualFunc(chunksOf(l), chunks, bytes.Equal) {
		return api.ErrChunk
	}
	if len(chunks) > p.left() {
		return api.ErrPool
	}
	p.series[n] = l
	return api.OK
}

func (p plain) drop(tenant string) int {
	count := p.used(tenant)
	for n := range p.series {
		if n.tenant == tenant {
			delete(p.series, n)
		}
	}
	return count
}

// pair is a store, and what the words make of it.
type pair struct {
	pool  *pool.Pool
	store *Store
	plain plain
	names []name // all that are asked of
}

func newPair(t *testing.T, slots int, names ...name) pair {
	t.Helper()
	p, s := made(t, slots)
	return pair{p, s, plain{slots, map[name][]api.Sample{}}, names}
}

func (a pair) append(t *testing.T, n name, l []api.Sample) {
	t.Helper()
	given := slices.Clone(l)
	more, wantE := a.plain.needs(n, l)
	if slots, e := a.store.Needs(n.tenant, n.id, given); slots != more || e != wantE {
		t.Fatalf("N2: Needs(%v, %v): %d, %d; want %d, %d", n, l, slots, e, more, wantE)
	}
	want := a.plain.append(n, l)
	if e := a.store.Append(n.tenant, n.id, given); e != want {
		t.Fatalf("N2: Append(%v, %v): %d; want %d", n, l, e, want)
	}
	if !slices.Equal(given, l) {
		t.Fatalf("P3: what is handed in is written into: %v; it was %v", given, l)
	}
}

func (a pair) lay(t *testing.T, n name, chunks [][]byte) {
	t.Helper()
	was := fmt.Sprint(chunks)
	want := a.plain.lay(n, chunks)
	if e := a.store.Lay(n.tenant, n.id, chunks); e != want {
		t.Fatalf("N4: Lay(%v, %v): %d; want %d", n, chunks, e, want)
	}
	if fmt.Sprint(chunks) != was {
		t.Fatalf("P3: what is handed in is written into: %v; it was %s", chunks, was)
	}
}

func (a pair) drop(t *testing.T, tenant string) {
	t.Helper()
	want := a.plain.drop(tenant)
	if n := a.store.Drop(tenant); n != want {
		t.Fatalf("N4: Drop(%q): %d; want %d", tenant, n, want)
	}
}

// agree holds all that is told against the words.
func (a pair) agree(t *testing.T) {
	t.Helper()
	for _, n := range a.names {
		a.agreeOn(t, n)
	}
	if a.pool.Left() != a.plain.left() {
		t.Fatalf("N: %d slots are left; want %d", a.pool.Left(), a.plain.left())
	}
}

func (a pair) agreeOn(t *testing.T, n name) {
	t.Helper()
	all := a.plain.series[n]
	if l := a.store.Range(n.tenant, n.id, math.MinInt64, math.MaxInt64); !slices.Equal(l, all) {
		t.Fatalf("N3: all of %v: %v; want %v", n, l, all)
	}
	last, ok := a.store.Last(n.tenant, n.id)
	if ok != (len(all) > 0) || ok && last != all[len(all)-1] || !ok && last != (api.Sample{}) {
		t.Fatalf("N3: Last of %v: %v, %v; all are %v", n, last, ok, all)
	}
	if got, want := a.store.Chunks(n.tenant, n.id), chunksOf(all); !slices.EqualFunc(got, want, bytes.Equal) {
		t.Fatalf("N3: Chunks of %v: %x; want %x", n, got, want)
	}
	want := a.plain.used(n.tenant)
	if slots, used := a.store.Slots(n.tenant), a.pool.Used(n.tenant); slots != want || used != want {
		t.Fatalf("N3: Slots of %q: %d, in the pool %d; want %d", n.tenant, slots, used, want)
	}
	a.agreeOnSlots(t, n.tenant)
}

// agreeOnSlots: in a tenant's slots lie its chunks, and nothing else.
func (a pair) agreeOnSlots(t *testing.T, tenant string) {
	t.Helper()
	var got, want []string
	for _, slot := range a.pool.Slots(tenant) {
		b, e := a.pool.Get(slot)
		if e != api.OK {
			t.Fatalf("N: Get(%d): %d", slot, e)
		}
		got = append(got, string(b))
	}
	for n, l := range a.plain.series {
		if n.tenant != tenant {
			continue
		}
		for _, b := range chunksOf(l) {
			want = append(want, string(b))
		}
	}
	slices.Sort(got)
	slices.Sort(want)
	if !slices.Equal(got, want) {
		t.Fatalf("N: in the slots of %q lie %x; want %x", tenant, got, want)
	}
}

// agreeOnTimes asks for times at, beside and between those that are there.
func (a pair) agreeOnTimes(t *testing.T, n name, r *rand.Rand) {
	t.Helper()
	times := []int64{math.MinInt64, math.MaxInt64, 0, -1}
	for _, one := range a.plain.series[n] {
		times = append(times, one.T-1, one.T, one.T+1)
	}
	for range 30 {
		from, to := times[r.Intn(len(times))], times[r.Intn(len(times))]
		got, want := a.store.Range(n.tenant, n.id, from, to), a.plain.between(n, from, to)
		if !slices.Equal(got, want) {
			t.Fatalf("N3: Range(%v, %d, %d): %v; want %v", n, from, to, got, want)
		}
	}
}

// someSamples follow a time, mostly; here and there they do not rise.
func someSamples(r *rand.Rand, last int64, count int) []api.Sample {
	steps := []int64{1, 10, 10, 10, 60, 63, 64, 65, 255, 300, 2047, 5000, 1 << 40}
	wild := r.Intn(3)
	var l []api.Sample
	v := r.Uint64()
	for range count {
		step := steps[r.Intn(len(steps))]
		if wild == 0 {
			step = 10
		}
		if r.Intn(200) == 0 {
			step = -int64(r.Intn(3))
		}
		if wild == 2 || r.Intn(10) == 0 {
			v = r.Uint64() >> r.Intn(64)
		}
		last += step
		l = append(l, api.Sample{T: last, V: v})
	}
	return l
}

func TestAllCallsByTheWords(t *testing.T) {
	names := []name{{"a", 0}, {"a", 1}, {"b", 0}, {"", 7}, {"b", math.MaxInt}, {"a", -1}, {"c", 0}}
	seen := map[api.Errno]int{}
	for seed := range int64(40) {
		r := rand.New(rand.NewSource(seed))
		a := newPair(t, r.Intn(12)+1, names...)
		var laid [][]byte
		for range 60 {
			n := names[r.Intn(len(names)-1)]
			switch r.Intn(10) {
			case 0:
				a.drop(t, n.tenant)
			case 1:
				laid = a.store.Chunks(n.tenant, n.id)
			case 2:
				seen[a.plain.layError(n, laid)]++
				a.lay(t, n, laid)
			default:
				last, _ := a.store.Last(n.tenant, n.id)
				l := someSamples(r, last.T, r.Intn(60))
				seen[a.plain.appendError(n, l)]++
				a.append(t, n, l)
			}
			a.agree(t)
			a.agreeOnTimes(t, n, r)
		}
	}
	for _, e := range []api.Errno{api.OK, api.ErrArg, api.ErrStale, api.ErrPool, api.ErrChunk} {
		if seen[e] == 0 {
			t.Errorf("the error %d was never met", e)
		}
	}
}

// copied is the same by itself, on which things may be tried.
func (p plain) copied() plain {
	c := plain{p.slots, map[name][]api.Sample{}}
	for n, l := range p.series {
		c.series[n] = slices.Clone(l)
	}
	return c
}

func (p plain) layError(n name, chunks [][]byte) api.Errno {
	return p.copied().lay(n, chunks)
}

func (p plain) appendError(n name, l []api.Sample) api.Errno {
	return p.copied().append(n, l)
}
