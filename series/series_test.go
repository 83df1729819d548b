package series

import (
	"bytes"
	"fmt"
	"math"
	"math/rand"
	"reflect"
	"slices"
	"strings"
	"testing"

	"turnkey/api"
	"turnkey/pool"
)

func made(t *testing.T, slots int) (*pool.Pool, *Store) {
	t.Helper()
	p, e := pool.New(slots)
	if e != api.OK {
		t.Fatalf("pool.New(%d): %d", slots, e)
	}
	return p, New(p)
}

// wild are samples of which few go into a chunk; even ones, of which many do.
func wild(r *rand.Rand, from int64, count int) []api.Sample {
	l := even(from, count)
	for i := range l {
		l[i].V = r.Uint64()
	}
	return l
}

func even(from int64, count int) []api.Sample {
	l := make([]api.Sample, count)
	for i := range l {
		l[i] = api.Sample{T: from + int64(i), V: 1}
	}
	return l
}

func appends(t *testing.T, s *Store, tenant string, id int, l []api.Sample, want api.Errno) {
	t.Helper()
	if e := s.Append(tenant, id, l); e != want {
		t.Fatalf("N2: Append(%q, %d, %v): %d; want %d", tenant, id, l, e, want)
	}
}

func needs(t *testing.T, s *Store, tenant string, id int, l []api.Sample, want int, wantE api.Errno) {
	t.Helper()
	if slots, e := s.Needs(tenant, id, l); slots != want || e != wantE {
		t.Fatalf("N2: Needs(%q, %d, %v): %d, %d; want %d, %d", tenant, id, l, slots, e, want, wantE)
	}
}

// has fails if a series' samples are not these.
func has(t *testing.T, s *Store, tenant string, id int, want []api.Sample) {
	t.Helper()
	if l := s.Range(tenant, id, math.MinInt64, math.MaxInt64); !slices.Equal(l, want) {
		t.Fatalf("N3: all of %q, %d: %v; want %v", tenant, id, l, want)
	}
}

func TestExamples(t *testing.T) {
	p, s := made(t, 2)
	two := []api.Sample{{T: 5, V: 1}, {T: 6, V: 1}}
	appends(t, s, "a", 0, two, api.OK)
	if s.Slots("a") != 1 || p.Used("a") != 1 {
		t.Errorf("N2: %d slots, %d of the pool's", s.Slots("a"), p.Used("a"))
	}
	appends(t, s, "a", 0, []api.Sample{{T: 6, V: 9}}, api.ErrStale)
	appends(t, s, "a", 0, []api.Sample{{T: 7}, {T: 7}}, api.ErrStale)
	many := wild(rand.New(rand.NewSource(1)), 7, 30)
	if slots, e := s.Needs("a", 0, many); slots < 2 || e != api.OK {
		t.Fatalf("N2: Needs of thirty: %d, %d", slots, e)
	}
	appends(t, s, "a", 0, many, api.ErrPool)
	has(t, s, "a", 0, two)
	if l := s.Range("a", 0, 6, 6); !slices.Equal(l, two[1:]) {
		t.Errorf("N3: Range from 6 to 6: %v", l)
	}
	if n := s.Drop("a"); n != 1 || p.Left() != 2 {
		t.Errorf("N4: Drop: %d; %d are left", n, p.Left())
	}
}

func TestNewStoreHasNothing(t *testing.T) {
	p, s := made(t, 3)
	for _, n := range []name{{"", 0}, {"a", 0}, {"a", 1}, {"a", -1}, {"a", math.MinInt}, {"a", math.MaxInt}} {
		last, ok := s.Last(n.tenant, n.id)
		if last != (api.Sample{}) || ok || len(s.Chunks(n.tenant, n.id)) != 0 || s.Slots(n.tenant) != 0 || s.Drop(n.tenant) != 0 {
			t.Errorf("N1: there is something of %v", n)
		}
		has(t, s, n.tenant, n.id, nil)
	}
	if p.Left() != 3 {
		t.Errorf("N1: %d slots are left", p.Left())
	}
}

// Where several errors apply, the one named first is the answer, and nothing is changed.
func TestErrorsInTheirOrder(t *testing.T) {
	r := rand.New(rand.NewSource(2))
	p, s := made(t, 1)
	had := []api.Sample{{T: 10, V: 7}}
	appends(t, s, "a", 0, had, api.OK)
	stale := []api.Sample{{T: 10}}
	many := wild(r, 11, 40)
	manyStale := append(wild(r, 11, 40), api.Sample{T: 50})
	for _, id := range []int{-1, math.MinInt} {
		for _, l := range [][]api.Sample{nil, {}, had, stale, many, manyStale} {
			needs(t, s, "a", id, l, 0, api.ErrArg)
			appends(t, s, "a", id, l, api.ErrArg)
		}
	}
	for _, l := range [][]api.Sample{had, stale, manyStale, {{T: 9}, {T: 11}}, {{T: math.MinInt64}}, {{T: 11}, {T: 10}}, {{T: 12}, {T: 13}, {T: 13}}} {
		needs(t, s, "a", 0, l, 0, api.ErrStale)
		appends(t, s, "a", 0, l, api.ErrStale)
	}
	appends(t, s, "a", 0, many, api.ErrPool)
	appends(t, s, "a", 1, had, api.ErrPool)
	appends(t, s, "b", 0, had, api.ErrPool)
	has(t, s, "a", 0, had)
	has(t, s, "a", 1, nil)
	has(t, s, "b", 0, nil)
	if p.Left() != 0 || s.Slots("a") != 1 || s.Slots("b") != 0 || len(s.tenants) != 1 {
		t.Errorf("N2: what is refused leaves traces: %d left, %d tenants", p.Left(), len(s.tenants))
	}
}

func TestNoSamplesChangeNothing(t *testing.T) {
	p, s := made(t, 1)
	for _, l := range [][]api.Sample{nil, {}} {
		needs(t, s, "a", 0, l, 0, api.OK)
		appends(t, s, "a", 0, l, api.OK)
	}
	if _, ok := s.Last("a", 0); ok || p.Left() != 1 || len(s.tenants) != 0 {
		t.Error("N2: of no samples there is a series")
	}
	one := []api.Sample{{T: -3, V: 4}}
	appends(t, s, "a", 0, one, api.OK)
	needs(t, s, "a", 0, nil, 0, api.OK)
	appends(t, s, "a", 0, nil, api.OK)
	appends(t, s, "b", 0, nil, api.OK)
	has(t, s, "a", 0, one)
}

// A full pool has still room in the open chunk.
func TestOpenChunkTakesMore(t *testing.T) {
	p, s := made(t, 1)
	all := even(0, 437)
	needs(t, s, "a", 0, all[:1], 1, api.OK)
	appends(t, s, "a", 0, all[:1], api.OK)
	for i := 1; i < len(all); i++ {
		needs(t, s, "a", 0, all[i:i+1], 0, api.OK)
		appends(t, s, "a", 0, all[i:i+1], api.OK)
	}
	needs(t, s, "a", 0, []api.Sample{{T: 437, V: 1}}, 1, api.OK)
	appends(t, s, "a", 0, []api.Sample{{T: 437, V: 1}}, api.ErrPool)
	has(t, s, "a", 0, all)
	if p.Left() != 0 || s.Slots("a") != 1 {
		t.Errorf("N2: %d left, %d slots", p.Left(), s.Slots("a"))
	}
}

// Where a sample did not go in, none that comes later does, though there were room for it.
func TestClosedChunkTakesNoMore(t *testing.T) {
	p, s := made(t, 3)
	l := even(0, 435)
	big := api.Sample{T: 1 << 40, V: math.MaxUint64}
	appends(t, s, "a", 0, l, api.OK)
	needs(t, s, "a", 0, []api.Sample{{T: 435, V: 1}}, 0, api.OK)
	needs(t, s, "a", 0, []api.Sample{big}, 1, api.OK)
	appends(t, s, "a", 0, []api.Sample{big, {T: 1<<40 + 1, V: 1}}, api.OK)
	chunks := s.Chunks("a", 0)
	if len(chunks) != 2 || !bytes.Equal(chunks[0], bytesOfAll(l)) || p.Left() != 1 {
		t.Errorf("N2: %d chunks, %d slots left", len(chunks), p.Left())
	}
}

func TestJustAsManySlotsAsAreLeft(t *testing.T) {
	r := rand.New(rand.NewSource(3))
	l := wild(r, 0, 100)
	want := len(chunksOf(l))
	for _, slots := range []int{want - 1, want, want + 1} {
		p, s := made(t, slots)
		needs(t, s, "a", 0, l, want, api.OK)
		if slots < want {
			appends(t, s, "a", 0, l, api.ErrPool)
			has(t, s, "a", 0, nil)
			if p.Left() != slots || p.Used("a") != 0 {
				t.Errorf("N2: %d of %d are left behind a refusal", p.Left(), slots)
			}
			continue
		}
		appends(t, s, "a", 0, l, api.OK)
		has(t, s, "a", 0, l)
		if p.Left() != slots-want || s.Slots("a") != want {
			t.Errorf("N2: %d of %d are left", p.Left(), slots)
		}
	}
}

// Which chunks there are hangs on the samples alone, however they came.
func TestChunksAreAFunctionOfTheSamples(t *testing.T) {
	for seed := range int64(30) {
		r := rand.New(rand.NewSource(seed))
		l := someSamples(r, -1000, 400)
		for !rises(l) {
			l = someSamples(r, -1000, 400)
		}
		want := chunksOf(l)
		_, s := made(t, 1000)
		for at := 0; at < len(l); {
			n := min(r.Intn(30), len(l)-at)
			appends(t, s, "a", 0, l[at:at+n], api.OK)
			// What others do between changes nothing.
			appends(t, s, "b", r.Intn(5), l[:r.Intn(30)], api.OK)
			s.Drop("b")
			at += n
		}
		if got := s.Chunks("a", 0); !slices.EqualFunc(got, want, bytes.Equal) || s.Slots("a") != len(want) {
			t.Fatalf("N2: chunks %x; want %x", got, want)
		}
	}
}

func TestTimesAtTheEnds(t *testing.T) {
	_, s := made(t, 4)
	l := []api.Sample{{T: math.MinInt64, V: math.MaxUint64}, {T: -1}, {T: 0, V: 1}, {T: 1}, {T: math.MaxInt64, V: 2}}
	for i := range l {
		appends(t, s, "a", 0, l[i:i+1], api.OK)
		appends(t, s, "a", 0, l[i:i+1], api.ErrStale)
	}
	appends(t, s, "b", 0, l, api.OK)
	has(t, s, "a", 0, l)
	has(t, s, "b", 0, l)
	for _, one := range []struct {
		from, to  int64
		low, high int // of l
	}{
		{math.MinInt64, math.MinInt64, 0, 1}, {math.MaxInt64, math.MaxInt64, 4, 5}, {math.MinInt64 + 1, math.MaxInt64 - 1, 1, 4},
		{0, 0, 2, 3}, {-1, 1, 1, 4}, {2, math.MaxInt64 - 1, 0, 0}, {1, 0, 0, 0}, {math.MaxInt64, math.MinInt64, 0, 0}, {1, -1, 0, 0},
	} {
		if got := s.Range("a", 0, one.from, one.to); !slices.Equal(got, l[one.low:one.high]) {
			t.Errorf("N3: Range from %d to %d: %v", one.from, one.to, got)
		}
	}
	if last, ok := s.Last("a", 0); last != l[4] || !ok {
		t.Errorf("N3: Last: %v, %v", last, ok)
	}
}

// Each time at and beside the edges of chunks, as from and as to.
func TestRangeAcrossChunks(t *testing.T) {
	_, s := made(t, 100)
	l := wild(rand.New(rand.NewSource(4)), 0, 120)
	for i := range l {
		l[i].T *= 3
	}
	appends(t, s, "a", 0, l, api.OK)
	if len(s.Chunks("a", 0)) < 5 {
		t.Fatalf("so few chunks: %d", len(s.Chunks("a", 0)))
	}
	p := plain{100, map[name][]api.Sample{{"a", 0}: l}}
	for from := int64(-2); from <= 361; from++ {
		for to := from - 2; to <= 361; to += 1 + to%7&3 {
			got, want := s.Range("a", 0, from, to), p.between(name{"a", 0}, from, to)
			if !slices.Equal(got, want) {
				t.Fatalf("N3: Range from %d to %d: %v; want %v", from, to, got, want)
			}
		}
	}
}

func TestTenantsAndNumbersAreAnyOnes(t *testing.T) {
	tenants := []string{"", " ", "a", "A", "a\x00", "\xff\xfe", "ä", strings.Repeat("a", 100000)}
	ids := []int{0, 1, math.MaxInt32, math.MaxInt}
	p, s := made(t, 100)
	at := func(i, j int) []api.Sample { return []api.Sample{{T: int64(i), V: uint64(j)}} }
	for i, tenant := range tenants {
		for j, id := range ids {
			appends(t, s, tenant, id, at(i, j), api.OK)
		}
	}
	for i, tenant := range tenants {
		for j, id := range ids {
			has(t, s, tenant, id, at(i, j))
		}
		if s.Slots(tenant) != len(ids) || p.Used(tenant) != len(ids) {
			t.Errorf("N3: the tenant %d has %d slots", i, s.Slots(tenant))
		}
	}
	for i, tenant := range tenants {
		if n := s.Drop(tenant); n != len(ids) || p.Used(tenant) != 0 || s.Drop(tenant) != 0 {
			t.Errorf("N4: Drop of the tenant %d: %d", i, n)
		}
	}
	if p.Left() != 100 {
		t.Errorf("N4: %d slots are left", p.Left())
	}
}

func TestDropIsOfOneTenant(t *testing.T) {
	r := rand.New(rand.NewSource(5))
	a := newPair(t, 40, name{"a", 0}, name{"a", 3}, name{"b", 0}, name{"b", 3})
	for _, n := range a.names {
		a.append(t, n, wild(r, 0, 50))
	}
	a.agree(t)
	a.drop(t, "a")
	a.agree(t)
	a.drop(t, "a")
	a.agree(t)
	// Times begin anew, and nothing of what was there comes back.
	a.append(t, name{"a", 0}, []api.Sample{{T: -5, V: 3}})
	a.append(t, name{"b", 0}, []api.Sample{{T: -5, V: 3}})
	a.agree(t)
}

func TestTenantsThatAreGoneAreNotKept(t *testing.T) {
	r := rand.New(rand.NewSource(6))
	p, s := made(t, 20)
	chunks := chunksOf(wild(r, 0, 50))
	for i := range 1000 {
		tenant := fmt.Sprint(i)
		appends(t, s, tenant, i, wild(r, 0, 10), api.OK)
		s.Lay(tenant, i+1, chunks)
		s.Lay(tenant+"!", i, [][]byte{{1}})
		s.Append(tenant+"?", i, wild(r, 0, 1000))
		if s.Drop(tenant); len(s.tenants) != 0 || p.Left() != 20 {
			t.Fatalf("%d tenants are kept, %d slots are left", len(s.tenants), p.Left())
		}
	}
}

// What a pool's owners had ahead of the store stays theirs.
func TestPoolWithOtherSlots(t *testing.T) {
	p, e := pool.New(5)
	if e != api.OK {
		t.Fatal(e)
	}
	for _, owner := range []string{"x", "a", "x"} {
		slot, _ := p.Take(owner)
		p.Put(slot, []byte("theirs"))
	}
	s := New(p)
	r := rand.New(rand.NewSource(7))
	appends(t, s, "a", 0, wild(r, 0, 30), api.ErrPool)
	appends(t, s, "a", 0, even(0, 3), api.OK)
	if s.Slots("a") != 1 || s.Slots("x") != 0 || len(s.Chunks("a", 0)) != 1 || p.Left() != 1 {
		t.Errorf("N3: Slots: %d, %d; %d are left", s.Slots("a"), s.Slots("x"), p.Left())
	}
	if s.Drop("a") != 1 || s.Drop("x") != 0 || p.Left() != 2 || p.Used("a") != 1 || p.Used("x") != 2 {
		t.Errorf("N4: Drop: %d are left", p.Left())
	}
	for slot := range 3 {
		if b, e := p.Get(slot); string(b) != "theirs" || e != api.OK {
			t.Errorf("N4: in the slot %d lies %q, %d", slot, b, e)
		}
	}
}

func TestStoresAreApart(t *testing.T) {
	_, one := made(t, 3)
	p, two := made(t, 3)
	appends(t, one, "a", 0, even(5, 5), api.OK)
	has(t, two, "a", 0, nil)
	appends(t, two, "a", 0, even(0, 2), api.OK)
	two.Drop("a")
	has(t, one, "a", 0, even(5, 5))
	if p.Left() != 3 {
		t.Errorf("P4: %d are left", p.Left())
	}
}

func TestWhatIsHandedInIsNotKept(t *testing.T) {
	r := rand.New(rand.NewSource(8))
	_, s := made(t, 50)
	room := wild(r, 0, 60)
	was := slices.Clone(room)
	l := room[10:40:50]
	appends(t, s, "a", 0, l, api.OK)
	needs(t, s, "a", 1, l, len(chunksOf(l)), api.OK)
	if !slices.Equal(room, was) {
		t.Error("P3: what is handed in is written into")
	}
	clear(room)
	has(t, s, "a", 0, was[10:40])
	chunks := s.Chunks("a", 0)
	if e := s.Lay("a", 1, chunks); e != api.OK {
		t.Fatalf("N4: Lay: %d", e)
	}
	for _, b := range chunks {
		scribble(b)
	}
	has(t, s, "a", 1, was[10:40])
}

// scribble writes over a list and its spare room, as its owner may.
func scribble(b []byte) {
	b = b[:cap(b)]
	for i := range b {
		b[i] ^= 0xff
	}
}

func TestAnswersAreTheCallers(t *testing.T) {
	_, s := made(t, 50)
	l := wild(rand.New(rand.NewSource(9)), 0, 60)
	appends(t, s, "a", 0, l, api.OK)
	want := chunksOf(l)
	one, two := s.Range("a", 0, 0, 99), s.Range("a", 0, 0, 99)
	clear(one[:cap(one)])
	if !slices.Equal(two, l) {
		t.Error("P3: two answers of Range share memory")
	}
	had, other := s.Chunks("a", 0), s.Chunks("a", 0)
	for i, b := range had {
		scribble(b)
		if rest := had[i+1:]; !slices.EqualFunc(rest, want[i+1:], bytes.Equal) {
			t.Error("P3: two chunks of an answer share memory")
		}
	}
	clear(had[:cap(had)])
	if !slices.EqualFunc(other, want, bytes.Equal) {
		t.Error("P3: two answers of Chunks share memory")
	}
	appends(t, s, "a", 0, wild(rand.New(rand.NewSource(10)), 100, 20), api.OK)
	if !slices.Equal(two, l) || !slices.EqualFunc(other, want, bytes.Equal) {
		t.Error("P3: what was answered is written into")
	}
	s.Drop("a")
	if !slices.Equal(two, l) || !slices.EqualFunc(other, want, bytes.Equal) {
		t.Error("P3: what was answered is written into by Drop")
	}
}

func TestNeedsChangesNothing(t *testing.T) {
	r := rand.New(rand.NewSource(11))
	a := newPair(t, 9, name{"a", 0}, name{"a", 1}, name{"b", 0})
	a.append(t, name{"a", 0}, wild(r, 0, 20))
	for range 100 {
		n := a.names[r.Intn(len(a.names))]
		l := someSamples(r, int64(r.Intn(40)), r.Intn(200))
		want, wantE := a.plain.needs(n, l)
		needs(t, a.store, n.tenant, n.id, l, want, wantE)
		a.agree(t)
	}
}

// A long series is not gone through from its beginning for each call.
func TestLongSeriesAreCheap(t *testing.T) {
	r := rand.New(rand.NewSource(12))
	_, s := made(t, api.MaxSlots)
	var all []api.Sample
	for s.Slots("a") < 50000 {
		more := wild(r, int64(len(all)), 1000)
		appends(t, s, "a", 0, more, api.OK)
		all = append(all, more...)
	}
	for range 20000 {
		at := r.Intn(len(all) - 3)
		if l := s.Range("a", 0, int64(at), int64(at+2)); !slices.Equal(l, all[at:at+3]) {
			t.Fatalf("N3: Range at %d: %v", at, l)
		}
		if last, ok := s.Last("a", 0); !ok || last != all[len(all)-1] {
			t.Fatalf("N3: Last: %v", last)
		}
		appends(t, s, "a", 0, []api.Sample{{T: int64(len(all)) - 1}}, api.ErrStale)
		needs(t, s, "a", 0, nil, 0, api.OK)
	}
	if n := s.Drop("a"); n < 50000 {
		t.Errorf("N4: Drop: %d", n)
	}
}

func TestCallsAreAsGiven(t *testing.T) {
	var names []string
	for m := range reflect.TypeFor[*Store]().Methods() {
		names = append(names, m.Name)
	}
	if want := []string{"Append", "Chunks", "Drop", "Last", "Lay", "Needs", "Range", "Slots"}; !slices.Equal(names, want) {
		t.Errorf("the calls of a store: %v; want %v", names, want)
	}
	for f := range reflect.TypeFor[Store]().Fields() {
		if f.IsExported() {
			t.Errorf("a store gives out %s", f.Name)
		}
	}
}
