package tenant

import (
	"crypto/sha256"
	"encoding/binary"
	"fmt"
	"math"
	"reflect"
	"slices"
	"strings"
	"testing"

	"turnkey/api"
	"turnkey/match"
)

const lastWindow = 18764998447 // 2^50 by 60000

func made(t *testing.T, slots int) *Tenants {
	t.Helper()
	x, e := New(slots)
	if x == nil || e != api.OK {
		t.Fatalf("Q1: New(%d): %d", slots, e)
	}
	return x
}

func makes(name string, series, samples int) api.Change {
	return api.Change{Kind: api.ChangeMake, Tenant: name, Series: series, Samples: samples}
}

func removes(name string) api.Change {
	return api.Change{Kind: api.ChangeRemove, Tenant: name}
}

func grants(name, token string, rights int, policy ...api.Matcher) api.Change {
	g := api.Grant{Digest: sha256.Sum256([]byte(token)), Rights: rights, Policy: policy}
	return api.Change{Kind: api.ChangeGrant, Tenant: name, Grant: g}
}

func revokes(name, token string) api.Change {
	return api.Change{Kind: api.ChangeRevoke, Tenant: name, Digest: sha256.Sum256([]byte(token))}
}

func writes(name string, window int64, l ...api.Series) api.Change {
	return api.Change{Kind: api.ChangeWrite, Tenant: name, Window: window, Writes: l}
}

// labels makes labels of names and values in turn.
func labels(words ...string) []api.Label {
	var out []api.Label
	for i := 0; i < len(words); i += 2 {
		out = append(out, api.Label{Name: words[i], Value: words[i+1]})
	}
	return out
}

// a is a series with the label a alone, whose samples have these times.
func a(value string, times ...int64) api.Series {
	return with(labels("a", value), times...)
}

func with(l []api.Label, times ...int64) api.Series {
	s := api.Series{Labels: l}
	for _, time := range times {
		s.Samples = append(s.Samples, api.Sample{T: time, V: uint64(time)})
	}
	return s
}

// run is so many samples, from a time on, that take few bits.
func run(value string, from int64, count int) api.Series {
	s := a(value)
	for i := range count {
		s.Samples = append(s.Samples, api.Sample{T: from + int64(i), V: 7})
	}
	return s
}

// wide is so many samples, from a time on, of which no more than seven go into a chunk.
func wide(value string, from int64, count int) api.Series {
	s := a(value)
	for i := range count {
		h := sha256.Sum256([]byte{byte(i), byte(i >> 8)})
		// No step is like the one ahead of it, and the first bit and the last bit of the values turn.
		s.Samples = append(s.Samples, api.Sample{T: from + int64(i)<<40 + int64(i%2)<<39, V: binary.BigEndian.Uint64(h[:])&^(1<<63|1) | uint64(i%2)<<63 | uint64(i%2)})
	}
	return s
}

func set(t *testing.T, text string) *match.Set {
	t.Helper()
	l, err := match.Parse(text)
	if err != nil {
		t.Fatalf("no matchers: %s", text)
	}
	s, e := match.New(l)
	if e != api.OK {
		t.Fatalf("no matchers: %s", text)
	}
	return s
}

// does fails unless Check and Do answer so, After foretells the size, and a refusal leaves all as it was.
func does(t *testing.T, x *Tenants, c api.Change, want api.Errno) {
	t.Helper()
	was, told := x.Save(), state(t, x)
	after := x.After(c)
	if e := x.Check(c); e != want {
		t.Fatalf("Q2: Check of %v: %d; want %d", c, e, want)
	}
	if string(x.Save()) != string(was) || state(t, x) != told {
		t.Fatalf("Q2, Q4: Check or After of %v changes something", c)
	}
	if e := x.Do(c); e != want {
		t.Fatalf("Q2: Do of %v: %d; want %d", c, e, want)
	}
	if now := x.Save(); len(now) != after || len(now) != x.Size() {
		t.Fatalf("Q4: of %v After tells %d, Size %d; Save has %d bytes", c, after, x.Size(), len(now))
	}
	if want != api.OK && (string(x.Save()) != string(was) || state(t, x) != told) {
		t.Fatalf("P2: %v is refused, and changes something", c)
	}
}

// state is all that x tells of itself but for what is saved, as text.
func state(t *testing.T, x *Tenants) string {
	keys, entries := x.Entries()
	out := fmt.Sprint(x.Size(), x.Free(), keys, entries, ";")
	for _, name := range x.Tenants() {
		account, _ := x.Account(name)
		out += fmt.Sprint(name, account, x.Slots(name), x.Select(name, set(t, "{}"), math.MinInt64, math.MaxInt64), ";")
	}
	return out
}

func TestExamples(t *testing.T) {
	x := made(t, 2)
	if x.Size() != 1 || string(x.Save()) != "\x00" {
		t.Errorf("Q4: no tenants are saved as %x", x.Save())
	}
	does(t, x, makes("t", 2, 100), api.OK)
	does(t, x, makes("t", 2, 100), api.ErrKnown)
	does(t, x, makes("T", 2, 100), api.ErrName)
	does(t, x, makes("u", 0, 1), api.ErrLimit)
	does(t, x, removes("u"), api.ErrTenant)
	if x.Size() != 9 || string(x.Save()) != "\x01\x01t\x02\x64\x00\x00\x00\x00" {
		t.Errorf("Q4: Save: %x", x.Save())
	}
	does(t, x, writes("t", 5, a("x", 10), a("x", 11)), api.OK)
	if account, ok := x.Account("t"); account != (api.Account{MaxSeries: 2, MaxSamples: 100, Series: 1, Written: 2, Window: 5}) || !ok || x.Slots("t") != 1 {
		t.Errorf("Q5: Account: %v, %v; Slots: %d", account, ok, x.Slots("t"))
	}
	does(t, x, writes("t", 5, a("x", 11)), api.ErrStale)
	does(t, x, writes("t", 5, a("x", 20), a("x", 15)), api.ErrStale)
	does(t, x, writes("t", 5, a("y", 1), a("z", 1)), api.ErrSeries)
	does(t, x, writes("t", 4, run("x", 12, 99)), api.ErrQuota)
	does(t, x, writes("t", 6, wide("x", 12, 99)), api.ErrPool)
	does(t, x, writes("t", 6, run("x", 12, 99)), api.OK)
	if n, l := x.Count("t", set(t, `{a!=""}`)), x.Values("t", set(t, "{}"), "a"); n != 1 || !slices.Equal(l, []string{"x"}) {
		t.Errorf("Q3: Count: %d; Values: %q", n, l)
	}
	does(t, x, removes("t"), api.OK)
	if x.Free() != 2 || x.Size() != 1 {
		t.Errorf("Q5: behind Remove %d are free; Size: %d", x.Free(), x.Size())
	}
}

func TestNewTakesWhatAPoolTakes(t *testing.T) {
	for _, slots := range []int{math.MinInt, -1, 0, api.MaxSlots + 1, math.MaxInt} {
		if x, e := New(slots); x != nil || e != api.ErrArg {
			t.Errorf("Q1: New(%d): %v, %d", slots, x, e)
		}
	}
	for _, slots := range []int{1, 2, api.MaxSlots} {
		if x := made(t, slots); x.Free() != slots {
			t.Errorf("Q1: of %d slots %d are free", slots, x.Free())
		}
	}
}

// knowsNothing fails if something is told of a tenant.
func knowsNothing(t *testing.T, x *Tenants, name string) {
	t.Helper()
	all := set(t, "{}")
	account, known := x.Account(name)
	g, e := x.Who(name, []byte("k"))
	if account != (api.Account{}) || known || !reflect.DeepEqual(g, api.Grant{}) || e != api.ErrToken {
		t.Errorf("Q3, Q5: of %q: %v, %v; %v, %d", name, account, known, g, e)
	}
	if n := len(x.Select(name, all, math.MinInt64, math.MaxInt64)) + x.Count(name, all) + len(x.Names(name, all)) + len(x.Values(name, all, "a")) + x.Slots(name); n != 0 {
		t.Errorf("Q3, Q5: of %q something is told", name)
	}
}

func TestOfNobodyNothingIsTold(t *testing.T) {
	x := made(t, 3)
	does(t, x, makes("t", 1, 10), api.OK)
	does(t, x, grants("t", "k", 1), api.OK)
	does(t, x, writes("t", 0, a("x", 1)), api.OK)
	for _, name := range []string{"", "u", "T", "t ", "t\x00", "tt", "\xff", strings.Repeat("t", 1000)} {
		knowsNothing(t, x, name)
	}
	if l := made(t, 1).Tenants(); len(l) != 0 {
		t.Errorf("Q5: Tenants of none: %q", l)
	}
}

func wrongNames() []string {
	out := []string{"", "T", "tT", " ", "t ", " t", "a_b", "a.b", "a/b", "ä", "a\x00", "\xff", "{", "`", ":", "0123456789abcdefg", strings.Repeat("a", 1000)}
	for c := range 256 {
		if !strings.ContainsRune("abcdefghijklmnopqrstuvwxyz0123456789-", rune(c)) {
			out = append(out, "t"+string([]byte{byte(c)}))
		}
	}
	return out
}

func rightNames() []string {
	return []string{"-", "0", "9", "a", "z", "--", "0123456789abcdef", "-0a-", "----------------"}
}

func TestNamesOfTenants(t *testing.T) {
	x := made(t, 20)
	for _, name := range wrongNames() {
		for _, c := range []api.Change{makes(name, 1, 1), removes(name), grants(name, "k", 1), revokes(name, "k"), writes(name, 0, a("x", 1))} {
			does(t, x, c, api.ErrName)
		}
	}
	for _, name := range rightNames() {
		for _, c := range []api.Change{removes(name), grants(name, "k", 1), revokes(name, "k"), writes(name, 0, a("x", 1))} {
			does(t, x, c, api.ErrTenant)
		}
		for _, c := range []api.Change{makes(name, 1, 1), grants(name, "k", 1), writes(name, 0, a("x", 1))} {
			does(t, x, c, api.OK)
		}
	}
	want := rightNames()
	slices.Sort(want)
	if l := x.Tenants(); !slices.Equal(l, want) {
		t.Errorf("Q5: Tenants: %q; want %q", l, want)
	}
	clear(x.Tenants())
	if l := x.Tenants(); !slices.Equal(l, want) {
		t.Errorf("P3: Tenants: %q; want %q", l, want)
	}
}

func TestKindsOfChanges(t *testing.T) {
	x := made(t, 2)
	does(t, x, makes("t", 2, 10), api.OK)
	for _, kind := range []int{math.MinInt, -1, 0, 6, 7, 16, 1<<32 + 1, math.MaxInt} {
		for _, name := range []string{"t", "u", "T", ""} {
			c := writes(name, 0, a("x", 1))
			c.Kind = kind
			does(t, x, c, api.ErrArg)
		}
	}
}

func TestLimits(t *testing.T) {
	x := made(t, 1)
	for _, l := range [][2]int{{0, 1}, {1, 0}, {-1, 1}, {1, -1}, {1000001, 1}, {1, 1000001}, {math.MaxInt, 1}, {1, math.MinInt}, {1<<32 + 1, 1}} {
		does(t, x, makes("t", l[0], l[1]), api.ErrLimit)
	}
	does(t, x, makes("t", 1, 1000000), api.OK)
	does(t, x, makes("u", 1000000, 1), api.OK)
	does(t, x, makes("t", 0, 1), api.ErrLimit)
	does(t, x, makes("t", 2, 2), api.ErrKnown)
	if account, _ := x.Account("t"); account != (api.Account{MaxSeries: 1, MaxSamples: 1000000}) {
		t.Errorf("Q2: Make: %v", account)
	}
}

// What a kind does not use does not count.
func TestOtherFieldsDoNotCount(t *testing.T) {
	x := made(t, 3)
	junk := api.Change{
		Series: -1, Samples: -1, Digest: [32]byte{9}, Window: -1, Grant: api.Grant{Rights: 99, Policy: make([]api.Matcher, 9)},
		Writes: []api.Series{{Labels: labels("", ""), Samples: nil}},
	}
	one := func(c api.Change) api.Change {
		out := junk
		out.Kind, out.Tenant = c.Kind, c.Tenant
		switch c.Kind {
		case api.ChangeMake:
			out.Series, out.Samples = c.Series, c.Samples
		case api.ChangeGrant:
			out.Grant = c.Grant
		case api.ChangeRevoke:
			out.Digest = c.Digest
		case api.ChangeWrite:
			out.Window, out.Writes = c.Window, c.Writes
		}
		return out
	}
	for _, c := range []api.Change{makes("t", 2, 10), grants("t", "k", 1), writes("t", 3, a("x", 1)), revokes("t", "k"), removes("t")} {
		does(t, x, one(c), api.OK)
	}
	if x.Size() != 1 || x.Free() != 3 {
		t.Errorf("Q2: %d bytes, %d free", x.Size(), x.Free())
	}
}

func TestGrants(t *testing.T) {
	x := made(t, 1)
	ax := api.Matcher{Name: "a", Op: api.OpIs, Text: "x"}
	does(t, x, makes("t", 1, 1), api.OK)
	does(t, x, makes("u", 1, 1), api.OK)
	does(t, x, grants("t", "k", 3, ax), api.OK)
	g, e := x.Who("t", []byte("k"))
	if want := grants("t", "k", 3, ax).Grant; !reflect.DeepEqual(g, want) || e != api.OK {
		t.Errorf("Q3: Who: %v, %d; want %v", g, e, want)
	}
	for _, one := range [][2]string{{"t", "l"}, {"u", "k"}, {"v", "k"}, {"t", ""}, {"T", "k"}, {"t", strings.Repeat("k", 65)}} {
		if g, e := x.Who(one[0], []byte(one[1])); !reflect.DeepEqual(g, api.Grant{}) || e != api.ErrToken {
			t.Errorf("Q3: Who(%q): %v, %d", one, g, e)
		}
	}
	wrong := api.Matcher{Name: "1", Op: api.OpIs}
	for rights, want := range map[int]api.Errno{0: api.ErrArg, 16: api.ErrArg, -1: api.ErrArg, 1: api.ErrMatch, 15: api.ErrMatch} {
		does(t, x, grants("t", "k", rights, wrong), want)
	}
	does(t, x, grants("t", "k", 1, slices.Repeat([]api.Matcher{ax}, 9)...), api.ErrMatch)
	does(t, x, grants("t", "k", 1), api.ErrKnown)
	for i := range 15 {
		does(t, x, grants("t", fmt.Sprint(i), i+1), api.OK)
	}
	does(t, x, grants("t", "m", 1), api.ErrMany)
	does(t, x, grants("t", "k", 1), api.ErrKnown)
	does(t, x, grants("t", "m", 16), api.ErrArg)
	does(t, x, grants("u", "m", 1), api.OK)
	does(t, x, revokes("t", "m"), api.ErrToken)
	does(t, x, revokes("u", "k"), api.ErrToken)
	was := x.Size()
	does(t, x, revokes("t", "k"), api.OK)
	does(t, x, revokes("t", "k"), api.ErrToken)
	if _, e := x.Who("t", []byte("k")); e != api.ErrToken || x.Size() >= was {
		t.Errorf("Q2: behind Revoke: Who %d; Size %d, was %d", e, x.Size(), was)
	}
	does(t, x, grants("t", "m", 1), api.OK)
}

func TestWindowsOfWrites(t *testing.T) {
	x := made(t, 2)
	does(t, x, makes("t", 1, 3), api.OK)
	for _, window := range []int64{math.MinInt64, -1, lastWindow + 1, api.MaxNow, math.MaxInt64} {
		does(t, x, writes("t", window, a("x", 1)), api.ErrArg)
	}
	does(t, x, writes("t", 0, a("x", 1)), api.OK)
	does(t, x, writes("t", 4, a("x", 2, 3)), api.OK)
	does(t, x, writes("t", 3, a("x", 4)), api.OK)
	does(t, x, writes("t", 4, a("x", 5)), api.ErrQuota)
	does(t, x, writes("t", 0, a("x", 5)), api.ErrQuota)
	does(t, x, writes("t", 5, a("x", 5, 6, 7, 8)), api.ErrQuota)
	if account, _ := x.Account("t"); account.Window != 4 || account.Written != 3 {
		t.Errorf("Q2: %v", account)
	}
	does(t, x, writes("t", lastWindow, a("x", 5, 6, 7)), api.OK)
	does(t, x, writes("t", 5, a("x", 8)), api.ErrQuota)
}

func TestCountsOfWrites(t *testing.T) {
	x := made(t, 300)
	does(t, x, makes("t", 1000, 1000), api.OK)
	does(t, x, writes("t", 0), api.ErrArg)
	for _, l := range [][]api.Series{{a("x")}, {a("x", 1), a("y")}, {a("y"), a("x", 1)}, {{}}, {a("")}, {run("x", 0, 257)}, {run("x", 0, 256), a("y", 1)}, {run("x", 0, 100000)}} {
		does(t, x, writes("t", 0, l...), api.ErrArg)
	}
	var many []api.Series
	for i := range 65 {
		many = append(many, a(fmt.Sprint(i), 1, 2, 3, 4))
	}
	does(t, x, writes("t", 0, many...), api.ErrArg)
	does(t, x, writes("t", 0, slices.Repeat([]api.Series{a("x", 1)}, 65)...), api.ErrArg)
	does(t, x, writes("t", 0, make([]api.Series, 100000)...), api.ErrArg)
	many[0].Samples = append(many[0].Samples, api.Sample{T: 5})
	does(t, x, writes("t", 0, many[:64]...), api.ErrArg)
	does(t, x, writes("t", 0, many[1:]...), api.OK)
	does(t, x, writes("t", 0, run("x", 0, 256)), api.OK)
	if account, _ := x.Account("t"); account.Series != 65 || account.Written != 512 {
		t.Errorf("Q2: %v", account)
	}
}

func TestLabelsOfWrites(t *testing.T) {
	x := made(t, 9)
	does(t, x, makes("t", 9, 100), api.OK)
	for _, l := range [][]api.Label{
		nil, {}, labels("a", ""), labels("", "x"), labels("b", "x", "a", "x"), labels("a", "x", "a", "x"), labels("1", "x"), labels("a", "\xff"),
		labels("a", "1", "b", "1", "c", "1", "d", "1", "e", "1", "f", "1", "g", "1", "h", "1", "i", "1"), labels(strings.Repeat("n", 33), "x"), labels("a", strings.Repeat("v", 65)),
	} {
		does(t, x, writes("t", 0, with(l, 1)), api.ErrLabels)
		does(t, x, writes("t", 0, a("x", 1), with(l, 1)), api.ErrLabels)
		does(t, x, writes("t", 0, with(l, 1), a("x", 1)), api.ErrLabels)
	}
	does(t, x, writes("t", 0, with(labels("a", "1", "b", "1", "c", "1", "d", "1", "e", "1", "f", "1", "g", "1", strings.Repeat("n", 32), strings.Repeat("v", 64)), 1)), api.OK)
}

// Samples under one set of labels are one row, whatever stands between them; new series come as they stand there.
func TestRowsOfAWrite(t *testing.T) {
	x := made(t, 9)
	does(t, x, makes("t", 3, 100), api.OK)
	does(t, x, writes("t", 0, a("z", 1), a("x", 5, 6), a("z", 2, 3), a("x", 7), a("z", 9)), api.OK)
	does(t, x, writes("t", 0, a("y", 1), a("x", 8), a("y", 2), a("x", 9)), api.OK)
	want := []api.Series{a("x", 5, 6, 7, 8, 9), a("y", 1, 2), a("z", 1, 2, 3, 9)}
	if l := x.Select("t", set(t, "{}"), math.MinInt64, math.MaxInt64); !reflect.DeepEqual(l, want) {
		t.Errorf("Q2, Q3: Select: %v; want %v", l, want)
	}
	var places []int
	for _, value := range []string{"z", "x", "y"} {
		places = append(places, strings.Index(string(x.Save()), "\x01a\x01"+value))
	}
	if places[0] < 0 || !slices.IsSorted(places) {
		t.Errorf("Q4: the series stand at %v", places)
	}
	for _, l := range [][]api.Series{
		{a("x", 9)}, {a("x", 10), a("x", 10)}, {a("x", 10), a("y", 3), a("x", 9)}, {a("y", 3, 5), a("x", 10), a("y", 4)}, {a("y", 4, 3)}, {a("w", 1, 1)}, {a("w", 1), a("w", 0)},
		{a("y", 3), a("z", 10), a("x", 1)},
	} {
		does(t, x, writes("t", 0, l...), api.ErrStale)
	}
	does(t, x, writes("t", 0, a("w", 1)), api.ErrSeries)
	does(t, x, writes("t", 0, with(labels("a", "x", "b", "x"), 1)), api.ErrSeries)
}

// Several errors apply to each: the one that is named first is answered.
func TestOrderOfErrors(t *testing.T) {
	x := made(t, 2)
	does(t, x, makes("t", 2, 20), api.OK)
	does(t, x, writes("t", 3, a("x", 10)), api.OK)
	does(t, x, writes("t", 3, a("x", 11)), api.OK)
	bad := with(labels("b", ""), 1)
	kind := writes("T", -1)
	kind.Kind = 0
	for _, one := range []struct {
		c    api.Change
		want api.Errno
	}{
		{kind, api.ErrArg}, {makes("T", 0, 0), api.ErrName}, {writes("T", -1), api.ErrName}, {grants("T", "k", 0), api.ErrName}, {makes("t", 0, 1), api.ErrLimit},
		{writes("u", -1), api.ErrTenant}, {grants("u", "k", 0), api.ErrTenant}, {revokes("u", "k"), api.ErrTenant}, {writes("u", 0, bad), api.ErrTenant},
		{writes("t", -1, bad), api.ErrArg}, {writes("t", 3, bad, a("y")), api.ErrArg}, {writes("t", 3, bad, run("x", 0, 256)), api.ErrArg}, {writes("t", 3, a("x", 1), a("x")), api.ErrArg},
		{writes("t", 3, a("x", 1), bad), api.ErrLabels}, {writes("t", 3, a("y", 1), a("z", 1), bad), api.ErrLabels}, {writes("t", 3, run("y", 0, 99), bad), api.ErrLabels},
		{writes("t", 3, a("y", 1), a("z", 1), a("x", 11)), api.ErrStale}, {writes("t", 3, run("y", 0, 99), a("x", 11)), api.ErrStale}, {writes("t", 3, wide("y", 0, 18), a("x", 11)), api.ErrStale},
		{writes("t", 3, a("y", 1), run("z", 0, 99)), api.ErrSeries}, {writes("t", 3, wide("y", 0, 18), a("z", 1)), api.ErrSeries},
		{writes("t", 3, wide("y", 0, 19)), api.ErrQuota}, {writes("t", 3, wide("x", 12, 19)), api.ErrQuota}, {writes("t", 3, wide("y", 0, 18)), api.ErrPool}, {writes("t", 4, wide("x", 12, 20)), api.ErrPool},
	} {
		does(t, x, one.c, one.want)
	}
	does(t, x, writes("t", 3, run("y", 0, 18)), api.OK)
}

// Each row by itself would find room, all together do not.
func TestRoomInThePool(t *testing.T) {
	x := made(t, 3)
	does(t, x, makes("t", 9, 100), api.OK)
	does(t, x, makes("u", 9, 100), api.OK)
	does(t, x, writes("t", 0, a("x", 1), a("y", 1), a("z", 1), a("w", 1)), api.ErrPool)
	does(t, x, writes("t", 0, a("x", 1), a("y", 1)), api.OK)
	does(t, x, writes("u", 0, a("x", 1), a("y", 1)), api.ErrPool)
	does(t, x, writes("u", 0, a("x", 1)), api.OK)
	if x.Free() != 0 || x.Slots("t") != 2 || x.Slots("u") != 1 {
		t.Errorf("Q5: %d, %d, %d", x.Free(), x.Slots("t"), x.Slots("u"))
	}
	// What goes into open chunks needs no slot.
	does(t, x, writes("t", 0, a("x", 2), a("y", 2)), api.OK)
	does(t, x, writes("t", 0, a("x", 3), a("z", 2)), api.ErrPool)
	does(t, x, removes("u"), api.OK)
	does(t, x, writes("t", 0, a("x", 3), a("z", 2)), api.OK)
	does(t, x, writes("t", 0, wide("x", 1<<41, 20)), api.ErrPool)
}

func TestCallsAreAsGiven(t *testing.T) {
	var names []string
	for m := range reflect.TypeFor[*Tenants]().Methods() {
		names = append(names, m.Name)
	}
	want := []string{"Account", "After", "Check", "Count", "Do", "Entries", "Free", "Names", "Save", "Select", "Size", "Slots", "Tenants", "Values", "Who"}
	if !slices.Equal(names, want) {
		t.Errorf("the calls of tenants: %v; want %v", names, want)
	}
	for f := range reflect.TypeFor[Tenants]().Fields() {
		if f.IsExported() {
			t.Errorf("tenants give out %s", f.Name)
		}
	}
}
