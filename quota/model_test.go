package quota

import (
	"math"
	"math/rand"
	"testing"

	"turnkey/api"
)

// plain is a book by the chapter's words: of each tenant its limits, and the list of all that it took.
type plain map[string]history

type history struct {
	series, samples int
	takes           []take
}

type take struct {
	window          int64
	series, samples int
}

// last is the greatest window in which something was taken.
func (h history) last() int64 {
	last := h.takes[0].window
	for _, one := range h.takes {
		last = max(last, one.window)
	}
	return last
}

// has is how many series came, whenever it was.
func (h history) has() int {
	n := 0
	for _, one := range h.takes {
		n += one.series
	}
	return n
}

// written is how many samples came in a window: those whose own window, or one ahead of it, led there.
func (h history) written(window int64) int {
	n := 0
	for i, one := range h.takes {
		if (history{takes: h.takes[:i+1]}).last() == window {
			n += one.samples
		}
	}
	return n
}

func (p plain) set(tenant string, series, samples int) api.Errno {
	return p.put(tenant, api.Account{MaxSeries: series, MaxSamples: samples})
}

// put: what a tenant comes with is its first take.
func (p plain) put(tenant string, a api.Account) api.Errno {
	switch _, there := p[tenant]; {
	case a.MaxSeries < 1, a.MaxSeries > 1000000, a.MaxSamples < 1, a.MaxSamples > 1000000:
		return api.ErrLimit
	case a.Series < 0, a.Series > a.MaxSeries, a.Written < 0, a.Written > a.MaxSamples, a.Window < 0:
		return api.ErrArg
	case there:
		return api.ErrKnown
	}
	p[tenant] = history{a.MaxSeries, a.MaxSamples, []take{{a.Window, a.Series, a.Written}}}
	return api.OK
}

func (p plain) get(tenant string) (api.Account, bool) {
	h, there := p[tenant]
	if !there {
		return api.Account{}, false
	}
	last := h.last()
	return api.Account{MaxSeries: h.series, MaxSamples: h.samples, Series: h.has(), Written: h.written(last), Window: last}, true
}

func (p plain) room(tenant string, window int64) (series int, samples int) {
	h, there := p[tenant]
	if !there {
		return 0, 0
	}
	return h.series - h.has(), h.samples - h.written(max(window, h.last()))
}

func (p plain) take(tenant string, window int64, series, samples int) api.Errno {
	h, there := p[tenant]
	moreSeries, moreSamples := p.room(tenant, window)
	switch {
	case !there:
		return api.ErrTenant
	case series < 0, samples < 0:
		return api.ErrArg
	case series > moreSeries:
		return api.ErrSeries
	case samples > moreSamples:
		return api.ErrQuota
	}
	h.takes = append(h.takes, take{window, series, samples})
	p[tenant] = h
	return api.OK
}

func (p plain) drop(tenant string) bool {
	_, there := p[tenant]
	delete(p, tenant)
	return there
}

// pair is a book, and what the words make of it.
type pair struct {
	book    *Book
	plain   plain
	tenants []string // all that are asked of
}

func newPair(tenants ...string) pair {
	return pair{New(), plain{}, tenants}
}

func (b pair) set(t *testing.T, tenant string, series, samples int) api.Errno {
	t.Helper()
	want := b.plain.set(tenant, series, samples)
	if e := b.book.Set(tenant, series, samples); e != want {
		t.Fatalf("O1: Set(%q, %d, %d): %d; want %d", tenant, series, samples, e, want)
	}
	return want
}

func (b pair) drop(t *testing.T, tenant string) {
	t.Helper()
	want := b.plain.drop(tenant)
	if had := b.book.Drop(tenant); had != want {
		t.Fatalf("O1: Drop(%q): %v; want %v", tenant, had, want)
	}
}

func (b pair) take(t *testing.T, tenant string, window int64, series, samples int) api.Errno {
	t.Helper()
	want := b.plain.take(tenant, window, series, samples)
	if e := b.book.Take(tenant, window, series, samples); e != want {
		t.Fatalf("O3: Take(%q, %d, %d, %d): %d; want %d", tenant, window, series, samples, e, want)
	}
	return want
}

func (b pair) put(t *testing.T, tenant string, a api.Account) api.Errno {
	t.Helper()
	want := b.plain.put(tenant, a)
	if e := b.book.Put(tenant, a); e != want {
		t.Fatalf("O4: Put(%q, %+v): %d; want %d", tenant, a, e, want)
	}
	return want
}

// agree holds all that is told against the words, and what is kept, too: nobody but those who are known.
func (b pair) agree(t *testing.T) {
	t.Helper()
	for _, tenant := range b.tenants {
		want, there := b.plain.get(tenant)
		if a, ok := b.book.Get(tenant); a != want || ok != there {
			t.Fatalf("O4: Get(%q): %+v, %v; want %+v, %v", tenant, a, ok, want, there)
		}
		if series, samples, ok := b.book.Limits(tenant); series != want.MaxSeries || samples != want.MaxSamples || ok != there {
			t.Fatalf("O1: Limits(%q): %d, %d, %v; want %+v, %v", tenant, series, samples, ok, want, there)
		}
		for _, window := range []int64{math.MinInt64, -1, 0, 1, want.Window - 1, want.Window, want.Window + 1, math.MaxInt64} {
			wantSeries, wantSamples := b.plain.room(tenant, window)
			if series, samples := b.book.Room(tenant, window); series != wantSeries || samples != wantSamples {
				t.Fatalf("O2: Room(%q, %d): %d, %d; want %d, %d", tenant, window, series, samples, wantSeries, wantSamples)
			}
		}
	}
	if len(b.book.accounts) != len(b.plain) {
		t.Fatalf("%d accounts are kept of %d tenants", len(b.book.accounts), len(b.plain))
	}
}

func pick[T any](r *rand.Rand, l ...T) T {
	return l[r.Intn(len(l))]
}

// someAccount mostly may be; here and there something in it may not.
func someAccount(r *rand.Rand) api.Account {
	a := api.Account{MaxSeries: r.Intn(4) + 1, MaxSamples: r.Intn(6) + 1, Window: int64(r.Intn(4))}
	a.Series, a.Written = r.Intn(a.MaxSeries+1), r.Intn(a.MaxSamples+1)
	if r.Intn(2) == 0 {
		wrong := pick(r, -1, 0, a.MaxSeries+1, a.MaxSamples+1, 1000001, math.MaxInt, math.MinInt)
		pick(r,
			func() { a.MaxSeries = wrong },
			func() { a.MaxSamples = wrong },
			func() { a.Series = wrong },
			func() { a.Written = wrong },
			func() { a.Window = int64(wrong) },
		)()
	}
	return a
}

func TestAllCallsByTheWords(t *testing.T) {
	tenants := []string{"a", "b", "", "a ", "never"}
	seen := map[api.Errno]int{}
	for seed := range int64(300) {
		r := rand.New(rand.NewSource(seed))
		b := newPair(tenants...)
		for range 80 {
			tenant := tenants[r.Intn(len(tenants)-1)]
			switch r.Intn(16) {
			case 0:
				b.drop(t, tenant)
			case 1, 2:
				seen[b.set(t, tenant, r.Intn(5), r.Intn(7))]++
			case 3, 4:
				seen[b.put(t, tenant, someAccount(r))]++
			case 5:
				window := pick[int64](r, math.MinInt64, -1, math.MaxInt64-1, math.MaxInt64)
				seen[b.take(t, tenant, window, pick(r, -1, 0, 1, math.MaxInt, math.MinInt), pick(r, -1, 0, 1, math.MaxInt, math.MinInt))]++
			default:
				seen[b.take(t, tenant, int64(r.Intn(12)-1), r.Intn(8)/4, r.Intn(5))]++
			}
			b.agree(t)
		}
	}
	for _, e := range []api.Errno{api.OK, api.ErrArg, api.ErrSeries, api.ErrQuota, api.ErrLimit, api.ErrKnown, api.ErrTenant} {
		if seen[e] == 0 {
			t.Errorf("the error %d was never met", e)
		}
	}
}

// Every small account, in every small window, takes every small number: no two errors change places, no edge is off by one.
func TestAllSmallTakes(t *testing.T) {
	for code := range 3 * 3 * 4 * 4 * 3 {
		a := api.Account{MaxSeries: code%3 + 1, MaxSamples: code/3%3 + 1, Series: code / 9 % 4, Written: code / 36 % 4, Window: int64(code / 144)}
		for window := int64(-1); window <= 3; window++ {
			for series := -1; series <= 4; series++ {
				for samples := -1; samples <= 4; samples++ {
					b := newPair("t", "u")
					b.put(t, "t", a)
					b.take(t, "t", window, series, samples)
					b.take(t, "u", window, series, samples)
					b.agree(t)
				}
			}
		}
	}
}
