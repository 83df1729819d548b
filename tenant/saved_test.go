package tenant

import (
	"bytes"
	"encoding/binary"
	"fmt"
	"math"
	"math/rand"
	"slices"
	"testing"

	"turnkey/api"
	"turnkey/chunk"
	"turnkey/label"
	"turnkey/match"
)

// guess reads what b might tell without asking whether it may be, or stands in its one form.
func guess(b []byte) []named {
	r := bytes.NewReader(b)
	uint := func() uint64 { n, _ := binary.ReadUvarint(r); return n }
	text := func() string {
		out := make([]byte, min(uint(), uint64(r.Len())))
		r.Read(out)
		return string(out)
	}
	var out []named
	for count := uint(); count > 0 && r.Len() > 0; count-- {
		one := named{name: text()}
		one.account = api.Account{MaxSeries: int(uint()), MaxSamples: int(uint()), Window: int64(uint()), Written: int(uint())}
		for count := uint(); count > 0 && r.Len() > 0; count-- {
			var g api.Grant
			r.Read(g.Digest[:])
			g.Rights = int(uint())
			g.Policy, _ = match.Parse(text())
			one.grants = append(one.grants, g)
		}
		series := uint()
		one.account.Series = int(series)
		for ; series > 0 && r.Len() > 0; series-- {
			var s api.Series
			for count := uint(); count > 0 && r.Len() > 0; count-- {
				s.Labels = append(s.Labels, api.Label{Name: text(), Value: text()})
			}
			for count := uint(); count > 0 && r.Len() > 0; count-- {
				l, _ := chunk.Read([]byte(text()))
				s.Samples = append(s.Samples, l...)
			}
			one.series = append(one.series, s)
		}
		out = append(out, one)
	}
	return out
}

type named struct {
	name string
	plainTenant
}

// mayBe tells whether a tenant may be, but for its name and its slots.
func (g plainTenant) mayBe() bool {
	a := g.account
	if a.MaxSeries < 1 || a.MaxSeries > 1000000 || a.MaxSamples < 1 || a.MaxSamples > 1000000 || a.Written < 0 || a.Written > a.MaxSamples || a.Window < 0 || a.Series < 0 || a.Series > a.MaxSeries || a.Series != len(g.series) {
		return false
	}
	var other plainTenant
	for _, one := range g.grants {
		next, e := other.grant(one)
		if e != api.OK {
			return false
		}
		other = next
	}
	for i, s := range g.series {
		twice := slices.ContainsFunc(g.series[:i], func(other api.Series) bool { return slices.Equal(other.Labels, s.Labels) })
		if label.Right(s.Labels) != api.OK || twice || len(s.Samples) == 0 || !rises(s.Samples) {
			return false
		}
	}
	return true
}

// loadPlain: whatever b tells must be what is saved as b.
func loadPlain(b []byte, slots int) (plain, api.Errno) {
	if slots < 1 || slots > 65536 {
		return plain{}, api.ErrArg
	}
	p := newPlain(slots)
	for _, one := range guess(b) {
		if !isPlainName(one.name) || !one.mayBe() {
			return plain{}, api.ErrState
		}
		p.tenants[one.name] = one.plainTenant
	}
	if p.free() < 0 || !bytes.Equal(p.save(), b) {
		return plain{}, api.ErrState
	}
	return p, api.OK
}

// loads fails unless Load answers as the words do; it tells whether b is taken.
func loads(t *testing.T, b []byte, slots int) bool {
	t.Helper()
	p, want := loadPlain(b, slots)
	was := bytes.Clone(b)
	x, e := Load(b, slots)
	if e != want || (x == nil) != (e != api.OK) || !bytes.Equal(b, was) {
		t.Fatalf("Q4: Load of %x: %d; want %d", b, e, want)
	}
	if e == api.OK {
		(&pair{x, p}).agree(t)
	}
	return e == api.OK
}

// someSaved is the bytes of some tenants, not too many, with grants and series.
func someSaved(t *testing.T, seed int64) []byte {
	t.Helper()
	r := rand.New(rand.NewSource(seed))
	b := &pair{made(t, 40), newPlain(40)}
	for range 200 {
		next, e := b.p.behind(b.someChange(r))
		if e == api.OK && len(next.save()) < 500 {
			b.p = next
		}
	}
	return b.p.save()
}

func TestLoadOfBytesNearSaved(t *testing.T) {
	taken := 0
	for seed := range int64(5) {
		saved := someSaved(t, seed)
		if !loads(t, saved, 40) {
			t.Fatalf("Q4: Load of what was saved: %x", saved)
		}
		for i := range saved {
			loads(t, saved[:i], 40)
			loads(t, saved[i+1:], 40)
			loads(t, slices.Delete(slices.Clone(saved), i, i+1), 40)
			for _, c := range []byte{0, 1, saved[i] - 1, saved[i] + 1, saved[i] ^ 0x80, saved[i] ^ 1, 0xff} {
				loads(t, slices.Insert(slices.Clone(saved), i, c), 40)
				b := slices.Clone(saved)
				b[i] = c
				if loads(t, b, 40) && c != saved[i] {
					taken++
				}
			}
		}
		for _, tail := range [][]byte{{0}, {1}, {0xff}, saved} {
			loads(t, slices.Concat(saved, tail), 40)
		}
	}
	if taken == 0 {
		t.Error("nothing but what was saved was taken")
	}
}

func TestLoadOfAnyBytes(t *testing.T) {
	r := rand.New(rand.NewSource(7))
	for range 20000 {
		b := make([]byte, r.Intn(14))
		for i := range b {
			b[i] = pick(r, 0, 0, 1, 1, 1, 2, 't', 'u', 0x80, 0xff, byte(r.Intn(256)))
		}
		loads(t, b, 2)
	}
}

// put is bytes of numbers (int), texts behind their length (string), and bytes as they are.
func put(parts ...any) []byte {
	var out []byte
	for _, one := range parts {
		switch x := one.(type) {
		case int:
			out = binary.AppendUvarint(out, uint64(x))
		case uint64:
			out = binary.AppendUvarint(out, x)
		case string:
			out = putText(out, x)
		case []byte:
			out = append(out, x...)
		}
	}
	return out
}

// chunkOf is one chunk of some samples, with its length ahead.
func chunkOf(s api.Series) []byte {
	return put(string(chunksOf(s.Samples)[0]))
}

func TestLoadOfWhatMayNotBe(t *testing.T) {
	one, two := put(1, "a", "x", 1, chunkOf(a("x", 1, 2))), put(1, "a", "y", 1, chunkOf(a("y", 5)))
	seven := wide("x", 0, 20).Samples
	packed := chunksOf(seven)
	digest := make([]byte, 32)
	late := bytes.Repeat([]byte{1}, 32)
	for what, wrong := range map[string][]byte{
		"nothing":                     {},
		"no tenants and a byte":       {0, 0},
		"a count in two bytes":        {0x80, 0},
		"a tenant that is not there":  {1},
		"the greatest count":          put(uint64(math.MaxUint64)),
		"a name of no bytes":          put(1, "", 1, 1, 0, 0, 0, 0),
		"a name that is none":         put(1, "T", 1, 1, 0, 0, 0, 0),
		"a name of 17 bytes":          put(1, "0123456789abcdefg", 1, 1, 0, 0, 0, 0),
		"names that fall":             put(2, "u", 1, 1, 0, 0, 0, 0, "t", 1, 1, 0, 0, 0, 0),
		"one name twice":              put(2, "t", 1, 1, 0, 0, 0, 0, "t", 1, 1, 0, 0, 0, 0),
		"fewer tenants":               put(2, "t", 1, 1, 0, 0, 0, 0),
		"more tenants":                put(1, "t", 1, 1, 0, 0, 0, 0, "u", 1, 1, 0, 0, 0, 0),
		"no series may be":            put(1, "t", 0, 1, 0, 0, 0, 0),
		"no samples may be":           put(1, "t", 1, 0, 0, 0, 0, 0),
		"a limit that is too great":   put(1, "t", 1000001, 1, 0, 0, 0, 0),
		"a limit that is far too big": put(1, "t", 1, uint64(1)<<63+1, 0, 0, 0, 0),
		"a limit that wraps":          put(1, "t", uint64(1)<<32+1, 1, 0, 0, 0, 0),
		"a window below 0":            put(1, "t", 1, 1, uint64(1)<<63, 0, 0, 0),
		"more written than may be":    put(1, "t", 1, 1, 0, 2, 0, 0),
		"written below 0":             put(1, "t", 1, 1, 0, uint64(math.MaxUint64), 0, 0),
		"a limit in two bytes":        put(1, "t", []byte{0x81, 0}, 1, 0, 0, 0, 0),
		"written in two bytes":        put(1, "t", 1, 1, 0, []byte{0x80, 0}, 0, 0),
		"grants that fall":            put(1, "t", 1, 1, 0, 0, 2, late, 1, "{}", digest, 1, "{}", 0),
		"one grant twice":             put(1, "t", 1, 1, 0, 0, 2, digest, 1, "{}", digest, 1, "{}", 0),
		"a grant of no rights":        put(1, "t", 1, 1, 0, 0, 1, digest, 0, "{}", 0),
		"a policy in another form":    put(1, "t", 1, 1, 0, 0, 1, digest, 1, "{ }", 0),
		"a policy that is none":       put(1, "t", 1, 1, 0, 0, 1, digest, 1, "", 0),
		"more series than may be":     put(1, "t", 1, 9, 0, 0, 0, 2, one, two),
		"more series than are told":   put(1, "t", 9, 9, 0, 0, 0, 1, one, two),
		"fewer series than are told":  put(1, "t", 9, 9, 0, 0, 0, 3, one, two),
		"the greatest count of them":  put(1, "t", 9, 9, 0, 0, 0, uint64(math.MaxUint64), one, two),
		"one set of labels twice":     put(1, "t", 9, 9, 0, 0, 0, 2, one, one),
		"no labels":                   put(1, "t", 9, 9, 0, 0, 0, 1, 0, 1, chunkOf(a("x", 1))),
		"labels that fall":            put(1, "t", 9, 9, 0, 0, 0, 1, 2, "b", "x", "a", "x", 1, chunkOf(a("x", 1))),
		"a label without a value":     put(1, "t", 9, 9, 0, 0, 0, 1, 1, "a", "", 1, chunkOf(a("x", 1))),
		"a label that is none":        put(1, "t", 9, 9, 0, 0, 0, 1, 1, "1", "x", 1, chunkOf(a("x", 1))),
		"very many labels":            put(1, "t", 9, 9, 0, 0, 0, 1, uint64(math.MaxUint64), "a", "x", 1, chunkOf(a("x", 1))),
		"no chunks":                   put(1, "t", 9, 9, 0, 0, 0, 1, 1, "a", "x", 0),
		"a chunk of nothing":          put(1, "t", 9, 9, 0, 0, 0, 1, 1, "a", "x", 1, ""),
		"a chunk that is none":        put(1, "t", 9, 9, 0, 0, 0, 1, 1, "a", "x", 1, "\x01"),
		"very many chunks":            put(1, "t", 9, 9, 0, 0, 0, 1, 1, "a", "x", uint64(math.MaxUint64), chunkOf(a("x", 1))),
		"times that fall":             put(1, "t", 9, 9, 0, 0, 0, 1, 1, "a", "x", 1, chunkOf(a("x", 2, 1))),
		"chunks that were one":        put(1, "t", 9, 9, 0, 0, 0, 1, 1, "a", "x", 2, chunkOf(a("x", 1)), chunkOf(a("x", 2))),
		"chunks that change places":   put(1, "t", 9, 9, 0, 0, 0, 1, 1, "a", "x", 3, string(packed[1]), string(packed[0]), string(packed[2])),
		"a chunk too many":            put(1, "t", 9, 9, 0, 0, 0, 1, 1, "a", "x", 2, string(packed[0]), string(packed[1]), string(packed[2])),
		"more slots than there are":   put(1, "t", 9, 9, 0, 0, 0, 1, 1, "a", "x", 3, string(packed[0]), string(packed[1]), string(packed[2])),
	} {
		if x, e := Load(wrong, 2); x != nil || e != api.ErrState {
			t.Errorf("Q4: Load of %s: %d", what, e)
		}
		if what != "more slots than there are" && loads(t, wrong, 40) {
			t.Errorf("Q4: %s is taken", what)
		}
	}
}

// Whether changes could have led there is not asked.
func TestLoadOfWhatMayBe(t *testing.T) {
	packed := chunksOf(wide("x", 0, 20).Samples)
	if len(packed) != 3 {
		t.Fatalf("%d chunks", len(packed))
	}
	for what, right := range map[string][]byte{
		"no tenants":                {0},
		"a tenant":                  put(1, "t", 1, 1, 0, 0, 0, 0),
		"written without series":    put(1, "t", 1, 1000000, 7, 1000000, 0, 0),
		"the last window of all":    put(1, "t", 1000000, 1, math.MaxInt64, 0, 0, 0),
		"series without writing":    put(1, "t", 1, 1, 0, 0, 0, 1, 1, "a", "x", 3, string(packed[0]), string(packed[1]), string(packed[2])),
		"names that rise":           put(3, "-", 1, 1, 0, 0, 0, 0, "0", 1, 1, 0, 0, 0, 0, "0a", 1, 1, 0, 0, 0, 0),
		"a grant with a policy":     put(1, "t", 1, 1, 0, 0, 1, make([]byte, 32), 15, `{a=~"x"}`, 0),
		"series in any order":       put(1, "t", 2, 1, 0, 0, 0, 2, 1, "b", "x", 1, chunkOf(a("x", 1)), 1, "a", "x", 1, chunkOf(a("x", math.MinInt64, math.MaxInt64))),
		"one series of two tenants": put(2, "t", 1, 1, 0, 0, 0, 1, 1, "a", "x", 1, chunkOf(a("x", 1)), "u", 1, 1, 0, 0, 0, 1, 1, "a", "x", 1, chunkOf(a("x", 1))),
	} {
		if !loads(t, right, 3) {
			t.Errorf("Q4: %s is not taken", what)
		}
	}
	x, e := Load(put(1, "t", 1, 1, math.MaxInt64, 0, 0, 0), 1)
	if e != api.OK {
		t.Fatalf("Q4: Load: %d", e)
	}
	does(t, x, writes("t", lastWindow, a("x", 1)), api.OK)
	if account, _ := x.Account("t"); account.Window != math.MaxInt64 || account.Written != 1 {
		t.Errorf("Q2: %v", account)
	}
}

func TestLoadTakesSlotsAsNewDoes(t *testing.T) {
	for _, b := range [][]byte{nil, {0}, {1}, {0xff}} {
		for _, slots := range []int{math.MinInt, -1, 0, 65537, math.MaxInt} {
			if x, e := Load(b, slots); x != nil || e != api.ErrArg {
				t.Errorf("Q4: Load of %x with %d slots: %d", b, slots, e)
			}
		}
	}
	for _, slots := range []int{1, 65536} {
		if x, e := Load([]byte{0}, slots); e != api.OK || x.Free() != slots {
			t.Errorf("Q4: Load with %d slots: %d", slots, e)
		}
	}
}

// Counts that need a byte more, or one less, behind a change.
func TestSizesWhereCountsGrow(t *testing.T) {
	x := made(t, 1000)
	for i := range 129 {
		does(t, x, makes(fmt.Sprintf("t%03d", i), 300, 20000), api.OK)
	}
	for i := range 3 {
		does(t, x, removes(fmt.Sprintf("t%03d", i)), api.OK)
	}
	does(t, x, makes("u", 300, 20000), api.OK)
	for i := range 130 {
		does(t, x, writes("u", 127, a(fmt.Sprint(i), 1)), api.OK)
	}
	does(t, x, writes("u", 128, a("0", 2)), api.OK)
	all := wide("long", 0, 7*132).Samples
	for i := 0; i < len(all); i += 7 {
		does(t, x, writes("u", 128, api.Series{Labels: labels("a", "long"), Samples: all[i : i+7]}), api.OK)
	}
	does(t, x, writes("u", 128, run("short", 0, 120)), api.OK)
	for i := range 20 {
		does(t, x, writes("u", 1<<14-10+int64(i), run("short", 120+int64(i), 1)), api.OK)
	}
	if n := x.Slots("u"); n != 130+132+1 {
		t.Errorf("Q5: Slots: %d", n)
	}
	does(t, x, removes("u"), api.OK)
}

// Writes that need many slots at once, to a series that has very many.
func TestSizesOfLongSeries(t *testing.T) {
	x := made(t, 1000)
	does(t, x, makes("t", 1, 100000), api.OK)
	all := wide("x", 0, 2560)
	for i := 0; i < 2560; i += 256 {
		does(t, x, writes("t", 0, api.Series{Labels: all.Labels, Samples: all.Samples[i : i+256]}), api.OK)
	}
	if n := x.Slots("t"); n != 366 {
		t.Errorf("Q5: Slots: %d", n)
	}
	does(t, x, writes("t", 0, a("x", 1<<60)), api.OK)
}

func TestManyOfAllAreCheap(t *testing.T) {
	x := made(t, api.MaxSlots)
	for i := range 20000 {
		if e := x.Do(makes(fmt.Sprint(i), 1, 1)); e != api.OK {
			t.Fatal(e)
		}
	}
	if e := x.Do(makes("t", api.MaxLimit, api.MaxLimit)); e != api.OK {
		t.Fatal(e)
	}
	for i := range 20000 {
		if e := x.Do(writes("t", 1, a(fmt.Sprint(i), 1))); e != api.OK {
			t.Fatal(e)
		}
	}
	saved := x.Save()
	y, e := Load(saved, api.MaxSlots)
	if e != api.OK || x.Size() != len(saved) || y.Size() != len(saved) || !bytes.Equal(y.Save(), saved) {
		t.Errorf("Q4: Load: %d", e)
	}
}
