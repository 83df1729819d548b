package index

import (
	"fmt"
	"math"
	"math/rand"
	"reflect"
	"slices"
	"strings"
	"testing"

	"turnkey/api"
	"turnkey/match"
)

// labels makes labels of names and values in turn.
func labels(words ...string) []api.Label {
	var out []api.Label
	for i := 0; i < len(words); i += 2 {
		out = append(out, api.Label{Name: words[i], Value: words[i+1]})
	}
	return out
}

// withValues is labels without those that have the empty value.
func withValues(words ...string) []api.Label {
	return slices.DeleteFunc(labels(words...), func(l api.Label) bool { return l.Value == "" })
}

func setOfMatchers(t *testing.T, l ...api.Matcher) *match.Set {
	t.Helper()
	s, e := match.New(l)
	if s == nil || e != api.OK {
		t.Fatalf("no matchers: %v", l)
	}
	return s
}

func parsed(t *testing.T, text string) *match.Set {
	t.Helper()
	l, err := match.Parse(text)
	if err != nil {
		t.Fatalf("no matchers: %s", text)
	}
	return setOfMatchers(t, l...)
}

// adds fails if Add does not answer so.
func adds(t *testing.T, x *Index, tenant string, l []api.Label, id int, fresh bool) {
	t.Helper()
	if got, is, e := x.Add(tenant, l); got != id || is != fresh || e != api.OK {
		t.Fatalf("M1: Add(%q, %v): %d, %v, %d; want %d, %v", tenant, l, got, is, e, id, fresh)
	}
}

// hasSize fails if Size does not answer so.
func hasSize(t *testing.T, x *Index, keys, entries int) {
	t.Helper()
	if k, n := x.Size(); k != keys || n != entries {
		t.Fatalf("M4: Size: %d, %d; want %d, %d", k, n, keys, entries)
	}
}

// ofExamples is the index of the chapter's examples.
func ofExamples(t *testing.T) *Index {
	t.Helper()
	x := New()
	adds(t, x, "t", labels("a", "x", "b", "y"), 0, true)
	adds(t, x, "t", labels("a", "x"), 1, true)
	adds(t, x, "t", labels("b", "y", "c", "z"), 2, true)
	adds(t, x, "t", labels("a", "x"), 1, false)
	adds(t, x, "u", labels("a", "x"), 0, true)
	return x
}

// eightLabels has as many labels as may be, each as long as may be.
func eightLabels() []api.Label {
	var out []api.Label
	for i := range api.MaxLabels {
		out = append(out, api.Label{Name: strings.Repeat("n", api.MaxLabel-1) + string(rune('a'+i)), Value: strings.Repeat("é", api.MaxValue/2)})
	}
	return out
}

func wrongLabels() [][]api.Label {
	nine := append(eightLabels(), api.Label{Name: "z", Value: "x"})
	return [][]api.Label{
		nil, {}, {{}}, labels("a", ""), labels("", "x"), labels("b", "x", "a", "x"), labels("a", "x", "a", "x"), labels("a", "x", "a", "y"),
		labels("1", "x"), labels("a-b", "x"), labels("a", "\xff"), labels(strings.Repeat("n", 33), "x"), labels("a", strings.Repeat("v", 65)),
		labels("a", "x", "", ""), labels("a", "x", "b", ""), labels("", "", "a", "x"), nine, make([]api.Label, api.MaxLabels), make([]api.Label, 100),
		append(labels("a", "x"), make([]api.Label, api.MaxLabels-1)...), append(eightLabels(), api.Label{}),
	}
}

func TestExamples(t *testing.T) {
	x := ofExamples(t)
	for text, want := range map[string][]int{
		`{a="x"}`: {0, 1}, `{a!="x"}`: {2}, `{a=""}`: {2}, `{b!=""}`: {0, 2}, `{a="x", b=""}`: {1}, `{}`: {0, 1, 2},
	} {
		if got := x.Select("t", parsed(t, text)); !slices.Equal(got, want) {
			t.Errorf("M2: Select by %s: %v; want %v", text, got, want)
		}
	}
	if l := x.Names("t", parsed(t, `{a="x"}`)); !slices.Equal(l, []string{"a", "b"}) {
		t.Errorf("M3: Names: %q", l)
	}
	if l := x.Values("t", parsed(t, `{}`), "b"); !slices.Equal(l, []string{"y"}) {
		t.Errorf("M3: Values of b: %q", l)
	}
	if l := x.Values("t", parsed(t, `{a="x"}`), "c"); len(l) != 0 {
		t.Errorf("M3: Values of c: %q", l)
	}
	hasSize(t, x, 6, 10)
	if n := x.Drop("t"); n != 3 {
		t.Errorf("M4: Drop: %d", n)
	}
	hasSize(t, x, 2, 2)
	adds(t, x, "t", labels("c", "z"), 0, true)
}

func TestNewIsEmpty(t *testing.T) {
	x := New()
	hasSize(t, x, 0, 0)
	for _, tenant := range alike {
		l, ok := x.Labels(tenant, 0)
		id, found := x.Find(tenant, labels("a", "x"))
		if l != nil || ok || id != 0 || found || x.Len(tenant) != 0 || x.Drop(tenant) != 0 {
			t.Errorf("M1: New has something of %q", tenant)
		}
		for _, text := range []string{"{}", `{a=""}`, `{a=~".*"}`, `{a!="x"}`, `{a="x"}`} {
			s := parsed(t, text)
			if len(x.Select(tenant, s))+len(x.Names(tenant, s))+len(x.Values(tenant, s, "a")) != 0 {
				t.Errorf("M2, M3: of nobody something is told by %s", text)
			}
		}
	}
	hasSize(t, x, 0, 0)
}

func TestWrongLabelsAreRefused(t *testing.T) {
	x, fresh := ofExamples(t), New()
	was := toldOf(t, x, "t")
	for _, l := range wrongLabels() {
		for _, tenant := range []string{"t", "u", "new"} {
			if id, is, e := x.Add(tenant, l); id != 0 || is || e != api.ErrLabels {
				t.Errorf("M1: Add(%q, %v): %d, %v, %d", tenant, l, id, is, e)
			}
			if id, ok := x.Find(tenant, l); id != 0 || ok {
				t.Errorf("M1: Find(%q, %v): %d, %v", tenant, l, id, ok)
			}
		}
		fresh.Add("t", l)
	}
	hasSize(t, x, 6, 10)
	hasSize(t, fresh, 0, 0)
	if toldOf(t, x, "t") != was || x.Len("new") != 0 {
		t.Error("P2: what was refused changed something")
	}
}

// A list that is not right is found nowhere, though one with its labels is there.
func TestFindOfWhatIsNotRight(t *testing.T) {
	x := New()
	adds(t, x, "t", labels("a", "x"), 0, true)
	adds(t, x, "t", eightLabels(), 1, true)
	for _, l := range wrongLabels() {
		if id, ok := x.Find("t", l); id != 0 || ok {
			t.Errorf("M1: Find(%v): %d, %v", l, id, ok)
		}
	}
	for i, l := range [][]api.Label{labels("a", "x"), eightLabels()} {
		if id, ok := x.Find("t", l); id != i || !ok {
			t.Errorf("M1: Find(%v): %d, %v", l, id, ok)
		}
	}
	for n := 1; n < api.MaxLabels; n++ {
		if id, ok := x.Find("t", eightLabels()[:n]); id != 0 || ok {
			t.Errorf("M1: Find of %d of eight: %d, %v", n, id, ok)
		}
	}
}

// Series that could be taken for one another, if names and values were put together carelessly.
func TestSeriesThatAreAlike(t *testing.T) {
	x := New()
	all := [][]api.Label{
		labels("a", "x"), labels("a", "xb"), labels("ax", "b"), labels("a", `x", b="y`), labels("a", "x", "b", "y"), labels("a", "x\x00b\x00y"),
		labels("a", "y", "b", "x"), labels("a", "x", "c", "y"), labels("b", "y"), labels("A", "x"), labels("a", "X"), labels("a", " x"), labels("a", "x,b=y"),
	}
	for i, l := range all {
		adds(t, x, "t", l, i, true)
	}
	for i, l := range all {
		adds(t, x, "t", l, i, false)
		if got, ok := x.Labels("t", i); !ok || !slices.Equal(got, l) {
			t.Errorf("M1: Labels(%d): %v, %v; want %v", i, got, ok, l)
		}
	}
	if x.Len("t") != len(all) {
		t.Errorf("M1: Len: %d", x.Len("t"))
	}
}

func TestNumbersThatNoSeriesHas(t *testing.T) {
	x := ofExamples(t)
	for _, id := range []int{-1, -2, 3, 4, 1 << 16, 1 << 31, 1<<32 - 1, 1 << 32, 1<<32 + 1, math.MaxInt, math.MinInt, math.MinInt + 1} {
		if l, ok := x.Labels("t", id); l != nil || ok {
			t.Errorf("M1: Labels(%d): %v, %v", id, l, ok)
		}
	}
	if l, ok := x.Labels("u", 1); l != nil || ok {
		t.Errorf("M1: Labels of another tenant's number: %v, %v", l, ok)
	}
}

func TestEightLabels(t *testing.T) {
	x := New()
	adds(t, x, "t", eightLabels(), 0, true)
	adds(t, x, "t", eightLabels()[1:], 1, true)
	adds(t, x, "t", eightLabels(), 0, false)
	hasSize(t, x, 1+8, 1+8+1+7)
	if l, ok := x.Labels("t", 0); !ok || !slices.Equal(l, eightLabels()) {
		t.Errorf("M1: Labels: %v, %v", l, ok)
	}
	last := eightLabels()[7]
	s := setOfMatchers(t, api.Matcher{Name: last.Name, Op: api.OpIs, Text: last.Value})
	if l := x.Select("t", s); !slices.Equal(l, []int{0, 1}) {
		t.Errorf("M2: Select by the last label: %v", l)
	}
	if l := x.Values("t", s, last.Name); !slices.Equal(l, []string{last.Value}) {
		t.Errorf("M3: Values: %q", l)
	}
}

// More matchers than New takes come out of And.
func TestSelectByManyMatchers(t *testing.T) {
	x := ofExamples(t)
	s := parsed(t, "{}")
	for range 10 {
		s = match.And(s, parsed(t, `{a="x", b=~"y?", c!="z", q=""}`))
	}
	if l := x.Select("t", s); len(s.List()) != 40 || !slices.Equal(l, []int{0, 1}) {
		t.Errorf("M2: Select by %d matchers: %v", len(s.List()), l)
	}
	if l := x.Select("t", match.And(s, parsed(t, `{b=""}`))); !slices.Equal(l, []int{1}) {
		t.Errorf("M2: Select by one more: %v", l)
	}
}

// Select by two sets' matchers together is what both tell; their order changes nothing.
func TestSelectByTwoSets(t *testing.T) {
	r := rand.New(rand.NewSource(5))
	x, all := New(), someSeries()
	for _, i := range r.Perm(len(all)) {
		adds(t, x, "t", all[i], x.Len("t"), true)
	}
	sets := []*match.Set{parsed(t, "{}"), parsed(t, `{a="x", a=""}`), parsed(t, `{a!="y", b=~"x.*"}`)}
	for _, m := range someMatchers() {
		sets = append(sets, setOfMatchers(t, m))
	}
	for _, one := range sets {
		for _, two := range sets {
			a, b := x.Select("t", one), x.Select("t", two)
			both := slices.DeleteFunc(slices.Clone(a), func(n int) bool { return !slices.Contains(b, n) })
			if l := x.Select("t", match.And(one, two)); !slices.Equal(l, both) {
				t.Fatalf("M2: Select by %v and %v: %v; want %v", one.List(), two.List(), l, both)
			}
			if l := x.Select("t", match.And(two, one)); !slices.Equal(l, both) {
				t.Fatalf("M2: Select by %v and %v: %v; want %v", two.List(), one.List(), l, both)
			}
		}
	}
}

func TestSelectWithoutMatchersIsAll(t *testing.T) {
	x := New()
	for i := range 300 {
		adds(t, x, "t", labels("n", fmt.Sprint(i)), i, true)
		adds(t, x, "u", labels("n", fmt.Sprint(i/2)), i/2, i%2 == 0)
		for _, tenant := range []string{"t", "u", "v"} {
			l := x.Select(tenant, parsed(t, "{}"))
			if len(l) != x.Len(tenant) {
				t.Fatalf("M2: Select of all: %d; want %d", len(l), x.Len(tenant))
			}
			for k, id := range l {
				if id != k {
					t.Fatalf("M2: Select of all: the %d. is %d", k, id)
				}
			}
		}
	}
}

// Byte by byte: large letters ahead of small ones, a beginning ahead of the whole.
func TestNamesAndValuesRise(t *testing.T) {
	x := New()
	adds(t, x, "t", labels("b", "é"), 0, true)
	adds(t, x, "t", labels("Z", "10", "_", "1", "a", "9"), 1, true)
	adds(t, x, "t", labels("aa", "x", "b", "z"), 2, true)
	adds(t, x, "t", labels("a1", "x", "b", "Z"), 3, true)
	adds(t, x, "t", labels("a", "9", "b", "za"), 4, true)
	adds(t, x, "t", labels("a", "10", "b", "\x00"), 5, true)
	all := parsed(t, "{}")
	if l := x.Names("t", all); !slices.Equal(l, []string{"Z", "_", "a", "a1", "aa", "b"}) {
		t.Errorf("M3: Names: %q", l)
	}
	if l := x.Values("t", all, "b"); !slices.Equal(l, []string{"\x00", "Z", "z", "za", "é"}) {
		t.Errorf("M3: Values of b: %q", l)
	}
	if l := x.Values("t", all, "a"); !slices.Equal(l, []string{"10", "9"}) {
		t.Errorf("M3: Values of a: %q", l)
	}
	for _, name := range []string{"", "q", "A", "b ", "é", "\xff", strings.Repeat("a", 1000), "t", "x", "1"} {
		if l := x.Values("t", all, name); len(l) != 0 {
			t.Errorf("M3: Values of %q: %q", name, l)
		}
	}
}

// Of series that are not told nothing shows in names and values.
func TestNamesAndValuesOfWhatIsTold(t *testing.T) {
	x := New()
	adds(t, x, "t", labels("a", "x", "b", "1"), 0, true)
	adds(t, x, "t", labels("a", "y", "b", "2", "hidden", "1"), 1, true)
	adds(t, x, "u", labels("a", "x", "b", "3", "other", "1"), 0, true)
	s := parsed(t, `{a="x"}`)
	if l := x.Names("t", s); !slices.Equal(l, []string{"a", "b"}) {
		t.Errorf("M3: Names: %q", l)
	}
	if l := x.Values("t", s, "b"); !slices.Equal(l, []string{"1"}) {
		t.Errorf("M3: Values: %q", l)
	}
	if l := x.Values("t", s, "hidden"); len(l) != 0 {
		t.Errorf("M3: Values of what is not told: %q", l)
	}
	if l := x.Names("t", parsed(t, `{a="z"}`)); len(l) != 0 {
		t.Errorf("M3: Names of nothing: %q", l)
	}
}

func TestDropTwice(t *testing.T) {
	x := ofExamples(t)
	if x.Drop("t") != 3 || x.Drop("t") != 0 || x.Drop("nobody") != 0 || x.Len("t") != 0 || x.Len("u") != 1 {
		t.Error("M4: Drop")
	}
	hasSize(t, x, 2, 2)
	// The values that a name had ahead of Drop are not asked for again.
	adds(t, x, "t", labels("b", "new"), 0, true)
	if l := x.Select("t", parsed(t, `{b=~".+"}`)); !slices.Equal(l, []int{0}) {
		t.Errorf("M4: Select behind Drop: %v", l)
	}
	if l := x.Values("t", parsed(t, `{}`), "b"); !slices.Equal(l, []string{"new"}) {
		t.Errorf("M4: Values behind Drop: %q", l)
	}
	if x.Drop("t") != 1 || x.Drop("u") != 1 {
		t.Error("M4: Drop of those that are left")
	}
	hasSize(t, x, 0, 0)
	if len(x.rolls) != 0 {
		t.Errorf("M4: %d tenants are kept", len(x.rolls))
	}
}

func TestWhatIsHandedInIsTheCallers(t *testing.T) {
	x := New()
	room := labels("a", "x", "b", "y", "c", "z")
	l := room[:2]
	adds(t, x, "t", l, 0, true)
	x.Find("t", l)
	if !slices.Equal(room, labels("a", "x", "b", "y", "c", "z")) {
		t.Errorf("P3: what was handed in became %v", room)
	}
	l[0].Name, l[1].Value = "q", "w"
	if got, ok := x.Labels("t", 0); !ok || !slices.Equal(got, labels("a", "x", "b", "y")) {
		t.Errorf("P3: what was handed in is kept: %v", got)
	}
	adds(t, x, "t", labels("a", "x", "b", "y"), 0, false)
}

// spoil writes into all of a list, and into its spare room.
func spoil[T any](l []T, with T) {
	l = l[:cap(l)]
	for i := range l {
		l[i] = with
	}
}

func TestAnswersAreTheCallers(t *testing.T) {
	x := ofExamples(t)
	was := toldOf(t, x, "t")
	sets := []*match.Set{parsed(t, "{}"), parsed(t, `{a="x"}`), parsed(t, `{a!="x"}`), parsed(t, `{b=~".*"}`), parsed(t, `{q=""}`)}
	for _, s := range sets {
		first, second := x.Select("t", s), x.Select("t", s)
		kept := slices.Clone(second)
		spoil(first, 77)
		if !slices.Equal(second, kept) {
			t.Errorf("P3: two answers of Select share memory")
		}
		spoil(x.Names("t", s), "spoilt")
		spoil(x.Values("t", s, "b"), "spoilt")
	}
	for id := range 3 {
		l, _ := x.Labels("t", id)
		spoil(l, api.Label{Name: "spoilt"})
	}
	if toldOf(t, x, "t") != was {
		t.Error("P3: an answer that was written into changed the index")
	}
	hasSize(t, x, 6, 10)
}

// Indexes have nothing to do with one another.
func TestIndexesAreApart(t *testing.T) {
	one, two := ofExamples(t), ofExamples(t)
	was := toldOf(t, two, "t")
	adds(t, one, "t", labels("n", "1"), 3, true)
	if toldOf(t, two, "t") != was {
		t.Error("P4: what was added to one is in another")
	}
	one.Drop("t")
	if toldOf(t, two, "t") != was {
		t.Error("P4: what was dropped from one is gone from another")
	}
}

// Whatever order a map is gone through: what is told is the same.
func TestSameCallsSameAnswers(t *testing.T) {
	told := ""
	for range 20 {
		x := New()
		for _, l := range someSeries() {
			x.Add("t", l)
			x.Add("u", l)
		}
		x.Drop("u")
		is := toldOf(t, x, "t")
		if told != "" && is != told {
			t.Fatal("P4: the same calls are answered otherwise")
		}
		told = is
	}
}

func TestAGreatTenantIsCheap(t *testing.T) {
	const count = 100_000
	x := New()
	for i := range count {
		adds(t, x, "t", labels("all", "x", "n", fmt.Sprint(i), "r", fmt.Sprint(i%5)), i, true)
	}
	hasSize(t, x, 1+1+count+5, 4*count)
	for i := range count {
		adds(t, x, "t", labels("all", "x", "n", fmt.Sprint(i), "r", fmt.Sprint(i%5)), i, false)
	}
	for text, want := range map[string]int{
		"{}": count, `{all="x"}`: count, `{all=""}`: 0, `{n="777"}`: 1, `{n!="777"}`: count - 1, `{r=~"1|2"}`: count / 5 * 2, `{r!~"1|2", n=~"..."}`: 540, `{n!=""}`: count, `{n=~"9*"}`: 5,
	} {
		if l := x.Select("t", parsed(t, text)); len(l) != want || !slices.IsSorted(l) {
			t.Errorf("M2: Select by %s: %d; want %d", text, len(l), want)
		}
	}
	if l := x.Values("t", parsed(t, "{}"), "n"); len(l) != count {
		t.Errorf("M3: %d values", len(l))
	}
	if n := x.Drop("t"); n != count {
		t.Errorf("M4: Drop: %d", n)
	}
	hasSize(t, x, 0, 0)
}

// What is asked of one tenant does not go through what all others have.
func TestManyTenantsAreCheap(t *testing.T) {
	const count = 50_000
	x := New()
	for i := range count {
		adds(t, x, fmt.Sprint(i), labels("a", fmt.Sprint(i)), 0, true)
	}
	hasSize(t, x, 2*count, 2*count)
	s := parsed(t, `{a=~".+", a!="", b=""}`)
	for i := range count {
		tenant := fmt.Sprint(i)
		if l := x.Select(tenant, s); !slices.Equal(l, []int{0}) {
			t.Fatalf("M2: Select of %q: %v", tenant, l)
		}
		if l := x.Values(tenant, s, "a"); !slices.Equal(l, []string{tenant}) {
			t.Fatalf("M3: Values of %q: %q", tenant, l)
		}
		if n := x.Drop(tenant); n != 1 {
			t.Fatalf("M4: Drop of %q: %d", tenant, n)
		}
	}
	hasSize(t, x, 0, 0)
}

func TestCallsAreAsGiven(t *testing.T) {
	var names []string
	for m := range reflect.TypeFor[*Index]().Methods() {
		names = append(names, m.Name)
	}
	if want := []string{"Add", "Drop", "Find", "Labels", "Len", "Names", "Select", "Size", "Values"}; !slices.Equal(names, want) {
		t.Errorf("the calls of an index: %v; want %v", names, want)
	}
	for f := range reflect.TypeFor[Index]().Fields() {
		if f.IsExported() {
			t.Errorf("an index gives out %s", f.Name)
		}
	}
}
