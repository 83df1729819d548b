package quota

import (
	"fmt"
	"maps"
	"math"
	"math/rand"
	"reflect"
	"slices"
	"strings"
	"testing"

	"turnkey/api"
)

func answers(t *testing.T, what string, e, want api.Errno) {
	t.Helper()
	if e != want {
		t.Errorf("%s: %d; want %d", what, e, want)
	}
}

func hasRoom(t *testing.T, q *Book, tenant string, window int64, series, samples int) {
	t.Helper()
	if a, b := q.Room(tenant, window); a != series || b != samples {
		t.Errorf("O2: Room(%q, %d): %d, %d; want %d, %d", tenant, window, a, b, series, samples)
	}
}

func hasAccount(t *testing.T, q *Book, tenant string, want api.Account) {
	t.Helper()
	if a, ok := q.Get(tenant); a != want || !ok {
		t.Errorf("O4: Get(%q): %+v, %v; want %+v", tenant, a, ok, want)
	}
}

func isUnknown(t *testing.T, q *Book, tenant string) {
	t.Helper()
	if a, ok := q.Get(tenant); a != (api.Account{}) || ok {
		t.Errorf("O4: Get(%q): %+v, %v; nobody knows it", tenant, a, ok)
	}
	if series, samples, ok := q.Limits(tenant); series != 0 || samples != 0 || ok {
		t.Errorf("O1: Limits(%q): %d, %d, %v; nobody knows it", tenant, series, samples, ok)
	}
	hasRoom(t, q, tenant, 0, 0, 0)
	hasRoom(t, q, tenant, math.MinInt64, 0, 0)
	hasRoom(t, q, tenant, math.MaxInt64, 0, 0)
}

func TestExamples(t *testing.T) {
	q := New()
	answers(t, "O1: Set", q.Set("a", 2, 10), api.OK)
	answers(t, "O1: Set again", q.Set("a", 2, 10), api.ErrKnown)
	answers(t, "O1: Set of no series", q.Set("b", 0, 1), api.ErrLimit)
	answers(t, "O1: Set of too many samples", q.Set("b", 1, 1000001), api.ErrLimit)
	hasRoom(t, q, "a", 7, 2, 10)
	answers(t, "O3: Take of eight", q.Take("a", 7, 1, 8), api.OK)
	hasRoom(t, q, "a", 7, 1, 2)
	hasRoom(t, q, "a", 3, 1, 2)
	hasRoom(t, q, "a", 8, 1, 10)
	answers(t, "O3: Take of three more", q.Take("a", 7, 0, 3), api.ErrQuota)
	answers(t, "O3: Take of two series", q.Take("a", 8, 2, 11), api.ErrSeries)
	answers(t, "O3: Take in a window that has gone", q.Take("a", 5, 0, 2), api.OK)
	hasAccount(t, q, "a", api.Account{MaxSeries: 2, MaxSamples: 10, Series: 1, Written: 10, Window: 7})
	answers(t, "O3: Take of a series", q.Take("a", 9, 1, 0), api.OK)
	hasRoom(t, q, "a", 7, 0, 10)
	answers(t, "O3: Take of one unknown", q.Take("c", 1, 1, 1), api.ErrTenant)
	answers(t, "O3: Take of less than nothing", q.Take("a", 1, -1, 0), api.ErrArg)
	if !q.Drop("a") || q.Drop("a") {
		t.Error("O1: Drop is not true, then false")
	}
	answers(t, "O1: Set behind Drop", q.Set("a", 2, 10), api.OK)
	hasRoom(t, q, "a", 0, 2, 10)
}

func TestNobodyIsKnownAtFirst(t *testing.T) {
	q := New()
	for _, tenant := range []string{"", "a", "\x00"} {
		isUnknown(t, q, tenant)
		if q.Drop(tenant) {
			t.Errorf("O1: Drop(%q): true", tenant)
		}
		answers(t, "O3: Take", q.Take(tenant, 0, 0, 0), api.ErrTenant)
		isUnknown(t, q, tenant)
	}
}

// No limit is told ahead of being known, and refuses whichever of the two it is.
func TestLimitsAreFromOneToTheGreatest(t *testing.T) {
	right := []int{1, 2, 999999, 1000000}
	wrong := []int{0, -1, 1000001, math.MaxInt, math.MinInt, 1 << 32, 1<<32 + 1}
	q := New()
	q.Set("known", 1, 1)
	for _, limit := range wrong {
		for _, other := range slices.Concat(right, wrong) {
			for _, tenant := range []string{"known", "new"} {
				answers(t, fmt.Sprintf("O1: Set(%s, %d, %d)", tenant, limit, other), q.Set(tenant, limit, other), api.ErrLimit)
				answers(t, fmt.Sprintf("O1: Set(%s, %d, %d)", tenant, other, limit), q.Set(tenant, other, limit), api.ErrLimit)
			}
		}
	}
	isUnknown(t, q, "new")
	hasAccount(t, q, "known", api.Account{MaxSeries: 1, MaxSamples: 1})
	for _, series := range right {
		for _, samples := range right {
			answers(t, fmt.Sprintf("O1: Set(new, %d, %d)", series, samples), q.Set("new", series, samples), api.OK)
			if a, b, ok := q.Limits("new"); a != series || b != samples || !ok {
				t.Errorf("O1: Limits: %d, %d, %v; want %d, %d", a, b, ok, series, samples)
			}
			hasAccount(t, q, "new", api.Account{MaxSeries: series, MaxSamples: samples})
			answers(t, "O1: Set again", q.Set("new", 5, 5), api.ErrKnown)
			hasAccount(t, q, "new", api.Account{MaxSeries: series, MaxSamples: samples})
			q.Drop("new")
		}
	}
}

// Made anew a tenant has nothing of what it was: limits, series, window and samples begin again.
func TestDropForgetsAll(t *testing.T) {
	q := New()
	q.Set("a", 9, 9)
	q.Take("a", 7, 5, 6)
	if !q.Drop("a") {
		t.Error("O1: Drop: false")
	}
	isUnknown(t, q, "a")
	answers(t, "O3: Take behind Drop", q.Take("a", 7, 0, 0), api.ErrTenant)
	answers(t, "O1: Set behind Drop", q.Set("a", 2, 3), api.OK)
	hasAccount(t, q, "a", api.Account{MaxSeries: 2, MaxSamples: 3})
	hasRoom(t, q, "a", 0, 2, 3)
	hasRoom(t, q, "a", 7, 2, 3)
}

func TestTheOrderOfErrors(t *testing.T) {
	q := New()
	q.Set("a", 2, 3)
	for _, c := range []struct {
		tenant          string
		series, samples int
		want            api.Errno
	}{
		{"b", -1, -1, api.ErrTenant},
		{"b", 3, 4, api.ErrTenant},
		{"a", -1, 4, api.ErrArg},
		{"a", 3, -1, api.ErrArg},
		{"a", math.MinInt, math.MaxInt, api.ErrArg},
		{"a", 3, 4, api.ErrSeries},
		{"a", math.MaxInt, math.MaxInt, api.ErrSeries},
		{"a", 2, 4, api.ErrQuota},
		{"a", 0, math.MaxInt, api.ErrQuota},
		{"a", 2, 3, api.OK},
	} {
		what := fmt.Sprintf("O3: Take(%s, 1, %d, %d)", c.tenant, c.series, c.samples)
		answers(t, what, q.Take(c.tenant, 1, c.series, c.samples), c.want)
	}
	hasAccount(t, q, "a", api.Account{MaxSeries: 2, MaxSamples: 3, Series: 2, Written: 3, Window: 1})
	answers(t, "O3: one series above", q.Take("a", 1, 1, 1), api.ErrSeries)
	answers(t, "O3: one sample above", q.Take("a", 1, 0, 1), api.ErrQuota)
	answers(t, "O3: nothing more", q.Take("a", 1, 0, 0), api.OK)
}

// What is refused does not move the window, either.
func TestRefusalsChangeNothing(t *testing.T) {
	q := New()
	was := api.Account{MaxSeries: 3, MaxSamples: 5, Series: 2, Written: 4, Window: 8}
	q.Put("a", was)
	before := maps.Clone(q.accounts)
	for _, window := range []int64{math.MinInt64, 0, 7, 8, 9, math.MaxInt64} {
		answers(t, "O3: Take of no such tenant", q.Take("b", window, 0, 0), api.ErrTenant)
		answers(t, "O3: Take of less than no series", q.Take("a", window, -1, 0), api.ErrArg)
		answers(t, "O3: Take of less than no samples", q.Take("a", window, 0, -1), api.ErrArg)
		answers(t, "O3: Take of two series", q.Take("a", window, 2, 0), api.ErrSeries)
		answers(t, "O3: Take of six samples", q.Take("a", window, 1, 6), api.ErrQuota)
	}
	answers(t, "O1: Set", q.Set("a", 9, 9), api.ErrKnown)
	answers(t, "O1: Set of no limit", q.Set("c", 9, 0), api.ErrLimit)
	answers(t, "O4: Put", q.Put("a", api.Account{MaxSeries: 1, MaxSamples: 1}), api.ErrKnown)
	answers(t, "O4: Put of no limit", q.Put("c", api.Account{}), api.ErrLimit)
	answers(t, "O4: Put of what may not be", q.Put("c", api.Account{MaxSeries: 1, MaxSamples: 1, Series: 2}), api.ErrArg)
	if !maps.Equal(before, q.accounts) {
		t.Errorf("P2: what was refused changed something: %v; it was %v", q.accounts, before)
	}
}

func TestRoomChangesNothing(t *testing.T) {
	q := New()
	q.Set("a", 2, 10)
	q.Take("a", 4, 1, 3)
	for _, window := range []int64{math.MaxInt64, 5, 4, 3, 0, -1, math.MinInt64, 4, 5} {
		samples := 7
		if window > 4 {
			samples = 10
		}
		hasRoom(t, q, "a", window, 1, samples)
		hasRoom(t, q, "b", window, 0, 0)
		hasAccount(t, q, "a", api.Account{MaxSeries: 2, MaxSamples: 10, Series: 1, Written: 3, Window: 4})
	}
	isUnknown(t, q, "b")
}

// A window comes with nothing taken in it, too; and behind it those ahead of it are gone.
func TestTakingNothingMovesTheWindow(t *testing.T) {
	q := New()
	q.Set("a", 2, 10)
	q.Take("a", 1, 1, 6)
	answers(t, "O3: Take of nothing", q.Take("a", 2, 0, 0), api.OK)
	hasAccount(t, q, "a", api.Account{MaxSeries: 2, MaxSamples: 10, Series: 1, Window: 2})
	hasRoom(t, q, "a", 1, 1, 10)
	answers(t, "O3: Take ahead of the last window", q.Take("a", 1, 0, 4), api.OK)
	hasAccount(t, q, "a", api.Account{MaxSeries: 2, MaxSamples: 10, Series: 1, Written: 4, Window: 2})
	answers(t, "O3: Take of nothing, again", q.Take("a", 2, 0, 0), api.OK)
	hasAccount(t, q, "a", api.Account{MaxSeries: 2, MaxSamples: 10, Series: 1, Written: 4, Window: 2})
}

func TestAClockThatGoesBackGivesNothingBack(t *testing.T) {
	q := New()
	q.Set("a", 1, 2)
	answers(t, "O3: two in 5", q.Take("a", 5, 0, 2), api.OK)
	for _, window := range []int64{4, 0, -1, math.MinInt64, 5, 3} {
		hasRoom(t, q, "a", window, 1, 0)
		answers(t, fmt.Sprintf("O3: one more in %d", window), q.Take("a", window, 0, 1), api.ErrQuota)
	}
	answers(t, "O3: one in 6", q.Take("a", 6, 0, 1), api.OK)
	answers(t, "O3: one more in 5", q.Take("a", 5, 0, 1), api.OK)
	answers(t, "O3: a third one", q.Take("a", 6, 0, 1), api.ErrQuota)
}

func TestWindowsAtTheEnds(t *testing.T) {
	q := New()
	q.Set("a", 1, 4)
	answers(t, "O3: the least window", q.Take("a", math.MinInt64, 0, 1), api.OK)
	answers(t, "O3: below 0", q.Take("a", -1, 0, 1), api.OK)
	hasAccount(t, q, "a", api.Account{MaxSeries: 1, MaxSamples: 4, Written: 2})
	hasRoom(t, q, "a", 0, 1, 2)
	hasRoom(t, q, "a", 1, 1, 4)
	answers(t, "O3: the greatest window", q.Take("a", math.MaxInt64, 0, 3), api.OK)
	hasAccount(t, q, "a", api.Account{MaxSeries: 1, MaxSamples: 4, Written: 3, Window: math.MaxInt64})
	hasRoom(t, q, "a", math.MinInt64, 1, 1)
	answers(t, "O3: behind it", q.Take("a", 0, 0, 2), api.ErrQuota)
}

func TestTheGreatestLimitsAreReached(t *testing.T) {
	q := New()
	q.Set("a", api.MaxLimit, api.MaxLimit)
	answers(t, "O3: one series above", q.Take("a", 0, api.MaxLimit+1, 0), api.ErrSeries)
	answers(t, "O3: one sample above", q.Take("a", 0, 0, api.MaxLimit+1), api.ErrQuota)
	answers(t, "O3: all", q.Take("a", 0, api.MaxLimit, api.MaxLimit), api.OK)
	hasRoom(t, q, "a", 0, 0, 0)
	hasRoom(t, q, "a", 1, 0, api.MaxLimit)
	answers(t, "O3: all samples, again", q.Take("a", 1, 0, api.MaxLimit), api.OK)
	answers(t, "O3: so many that they would wrap round", q.Take("a", 1, 0, math.MaxInt), api.ErrQuota)
	answers(t, "O3: so many that they would wrap round", q.Take("a", 1, math.MaxInt, 0), api.ErrSeries)
}

func TestPutTakesWhatMayBe(t *testing.T) {
	for _, a := range []api.Account{
		{MaxSeries: 1, MaxSamples: 1},
		{MaxSeries: 1, MaxSamples: 1, Series: 1, Written: 1, Window: math.MaxInt64},
		{MaxSeries: 3, MaxSamples: 5, Series: 3},
		{MaxSeries: 3, MaxSamples: 5, Written: 5},
		{MaxSeries: 5, MaxSamples: 3, Series: 4, Written: 2, Window: 1},
		{MaxSeries: api.MaxLimit, MaxSamples: api.MaxLimit, Series: api.MaxLimit, Written: api.MaxLimit, Window: 8},
	} {
		q := New()
		answers(t, fmt.Sprintf("O4: Put of %+v", a), q.Put("t", a), api.OK)
		hasAccount(t, q, "t", a)
		hasRoom(t, q, "t", a.Window, a.MaxSeries-a.Series, a.MaxSamples-a.Written)
		if series, samples, ok := q.Limits("t"); series != a.MaxSeries || samples != a.MaxSamples || !ok {
			t.Errorf("O1: Limits: %d, %d, %v; want those of %+v", series, samples, ok, a)
		}
		answers(t, "O4: Put again", q.Put("t", a), api.ErrKnown)
		answers(t, "O1: Set behind Put", q.Set("t", 1, 1), api.ErrKnown)
		hasAccount(t, q, "t", a)
	}
}

// What is wrong with an account is told in the same way, whether the tenant is known or not.
func TestPutRefusesWhatMayNotBe(t *testing.T) {
	fine := api.Account{MaxSeries: 3, MaxSamples: 5, Series: 2, Written: 4, Window: 8}
	q := New()
	q.Put("known", fine)
	before := maps.Clone(q.accounts)
	for _, c := range []struct {
		turn func(a *api.Account)
		want api.Errno
	}{
		{func(a *api.Account) { *a = api.Account{} }, api.ErrLimit},
		{func(a *api.Account) { a.MaxSeries = 0 }, api.ErrLimit},
		{func(a *api.Account) { a.MaxSeries = -1 }, api.ErrLimit},
		{func(a *api.Account) { a.MaxSeries = api.MaxLimit + 1 }, api.ErrLimit},
		{func(a *api.Account) { a.MaxSeries = math.MinInt }, api.ErrLimit},
		{func(a *api.Account) { a.MaxSamples = 0 }, api.ErrLimit},
		{func(a *api.Account) { a.MaxSamples = math.MaxInt }, api.ErrLimit},
		{func(a *api.Account) { a.MaxSamples, a.Series = api.MaxLimit+1, 4 }, api.ErrLimit},
		{func(a *api.Account) { a.MaxSeries, a.Window = 0, -1 }, api.ErrLimit},
		{func(a *api.Account) { a.Series = 4 }, api.ErrArg},
		{func(a *api.Account) { a.Series = -1 }, api.ErrArg},
		{func(a *api.Account) { a.Series = math.MaxInt }, api.ErrArg},
		{func(a *api.Account) { a.Series = math.MinInt }, api.ErrArg},
		{func(a *api.Account) { a.Written = 6 }, api.ErrArg},
		{func(a *api.Account) { a.Written = -1 }, api.ErrArg},
		{func(a *api.Account) { a.Written = math.MaxInt }, api.ErrArg},
		{func(a *api.Account) { a.Written = math.MinInt }, api.ErrArg},
		{func(a *api.Account) { a.Window = -1 }, api.ErrArg},
		{func(a *api.Account) { a.Window = math.MinInt64 }, api.ErrArg},
	} {
		a := fine
		c.turn(&a)
		for _, tenant := range []string{"known", "new"} {
			answers(t, fmt.Sprintf("O4: Put(%s, %+v)", tenant, a), q.Put(tenant, a), c.want)
		}
	}
	if !maps.Equal(before, q.accounts) {
		t.Errorf("P2: what was refused changed something: %v; it was %v", q.accounts, before)
	}
}

// One who is put where Get was asked is told the same from then on, whatever comes.
func TestPutOfGetIsTheSame(t *testing.T) {
	for seed := range int64(200) {
		r := rand.New(rand.NewSource(seed))
		one, two := New(), New()
		one.Set("t", r.Intn(6)+1, r.Intn(9)+1)
		two.Set("other", 1, 1)
		for range r.Intn(12) {
			one.Take("t", int64(r.Intn(6)), r.Intn(2), r.Intn(4))
		}
		a, _ := one.Get("t")
		answers(t, "O4: Put of Get", two.Put("t", a), api.OK)
		for range 30 {
			window, series, samples := int64(r.Intn(9)), r.Intn(5)/3, r.Intn(4)
			want := one.Take("t", window, series, samples)
			if e := two.Take("t", window, series, samples); e != want {
				t.Fatalf("O4: Take(%d, %d, %d): %d; where it came from: %d", window, series, samples, e, want)
			}
			a, _ = one.Get("t")
			hasAccount(t, two, "t", a)
		}
	}
}

// What others do, put between or left out, shows nowhere.
func TestTenantsAreApart(t *testing.T) {
	for seed := range int64(200) {
		r := rand.New(rand.NewSource(seed))
		alone, among := New(), New()
		for range 60 {
			disturb(among, r)
			tenant, window := "t", int64(r.Intn(8))
			var one, two any
			switch r.Intn(8) {
			case 0:
				one, two = alone.Drop(tenant), among.Drop(tenant)
			case 1, 2:
				series, samples := r.Intn(5), r.Intn(9)
				one, two = alone.Set(tenant, series, samples), among.Set(tenant, series, samples)
			case 3:
				a := someAccount(r)
				one, two = alone.Put(tenant, a), among.Put(tenant, a)
			default:
				series, samples := r.Intn(2), r.Intn(5)
				one, two = alone.Take(tenant, window, series, samples), among.Take(tenant, window, series, samples)
			}
			a, ok := alone.Get(tenant)
			b, there := among.Get(tenant)
			if one != two || a != b || ok != there {
				t.Fatalf("O: alone %v, %+v; among others %v, %+v", one, a, two, b)
			}
			series, samples := alone.Room(tenant, window)
			hasRoom(t, among, tenant, window, series, samples)
		}
	}
}

// disturb does something to tenants with names much like t.
func disturb(q *Book, r *rand.Rand) {
	tenant := pick(r, "", "T", "t ", "t\x00", "tt", "u")
	switch r.Intn(6) {
	case 0:
		q.Drop(tenant)
	case 1, 2:
		q.Set(tenant, r.Intn(5), r.Intn(9))
	case 3:
		q.Put(tenant, someAccount(r))
	default:
		q.Take(tenant, int64(r.Intn(20)), r.Intn(3), r.Intn(5))
	}
}

func TestTenantsAreAnyTexts(t *testing.T) {
	tenants := []string{"", " ", "a", "A", "a ", "a\x00", "\x00", "\xff", "\xff\xfe", "ä", strings.Repeat("a", 100000)}
	q := New()
	for i, tenant := range tenants {
		answers(t, "O1: Set", q.Set(tenant, i+1, i+2), api.OK)
		answers(t, "O3: Take", q.Take(tenant, int64(i), 1, 1), api.OK)
	}
	for i, tenant := range tenants {
		hasAccount(t, q, tenant, api.Account{MaxSeries: i + 1, MaxSamples: i + 2, Series: 1, Written: 1, Window: int64(i)})
	}
	for i, tenant := range tenants {
		if !q.Drop(tenant) || len(q.accounts) != len(tenants)-i-1 {
			t.Errorf("O1: behind Drop of the tenant %d there are %d", i, len(q.accounts))
		}
	}
}

// Who is asked of, refused or dropped leaves no trace: what is kept is of those who are known.
func TestWhoIsNotKnownIsNotKept(t *testing.T) {
	q := New()
	q.Set("stays", 1, 1)
	for i := range 1000 {
		name := fmt.Sprint(i)
		q.Get(name)
		q.Limits(name)
		q.Room(name, 1)
		q.Take(name, 1, 0, 0)
		q.Set(name, 0, 1)
		q.Put(name, api.Account{MaxSeries: 1, MaxSamples: 1, Window: -1})
		q.Drop(name)
		q.Set(name, 1, 1)
		q.Drop(name)
		if len(q.accounts) != 1 {
			t.Fatalf("%d tenants are kept", len(q.accounts))
		}
	}
}

func TestBooksAreApart(t *testing.T) {
	one, two := New(), New()
	one.Set("a", 2, 2)
	isUnknown(t, two, "a")
	two.Set("a", 5, 5)
	two.Take("a", 3, 4, 4)
	hasAccount(t, one, "a", api.Account{MaxSeries: 2, MaxSamples: 2})
	two.Drop("a")
	hasAccount(t, one, "a", api.Account{MaxSeries: 2, MaxSamples: 2})
}

func TestCallsAreAsGiven(t *testing.T) {
	var names []string
	for m := range reflect.TypeFor[*Book]().Methods() {
		names = append(names, m.Name)
	}
	if want := []string{"Drop", "Get", "Limits", "Put", "Room", "Set", "Take"}; !slices.Equal(names, want) {
		t.Errorf("the calls of a book: %v; want %v", names, want)
	}
	for f := range reflect.TypeFor[Book]().Fields() {
		if f.IsExported() {
			t.Errorf("a book gives out %s", f.Name)
		}
	}
}
