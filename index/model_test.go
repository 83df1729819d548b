package index

import (
	"fmt"
	"math/rand"
	"slices"
	"testing"

	"turnkey/api"
	"turnkey/label"
	"turnkey/match"
)

// plain is an index by the chapter's words: of each tenant a list of series, gone through from its beginning each time.
type plain map[string][][]api.Label

func (p plain) find(tenant string, l []api.Label) (int, bool) {
	for i, one := range p[tenant] {
		if slices.Equal(one, l) {
			return i, true
		}
	}
	return 0, false
}

func (p plain) add(tenant string, l []api.Label) (int, bool, api.Errno) {
	if label.Right(l) != api.OK {
		return 0, false, api.ErrLabels
	}
	if id, ok := p.find(tenant, l); ok {
		return id, false, api.OK
	}
	p[tenant] = append(p[tenant], slices.Clone(l))
	return len(p[tenant]) - 1, true, api.OK
}

func (p plain) chosen(tenant string, s *match.Set) []int {
	var out []int
	for i, one := range p[tenant] {
		if s.Holds(one) {
			out = append(out, i)
		}
	}
	return out
}

// told picks a text of each label of the series that hold s, or none (false).
func (p plain) told(tenant string, s *match.Set, pick func(api.Label) (string, bool)) []string {
	var out []string
	for _, one := range p[tenant] {
		if !s.Holds(one) {
			continue
		}
		for _, l := range one {
			if text, ok := pick(l); ok {
				out = append(out, text)
			}
		}
	}
	slices.Sort(out)
	return slices.Compact(out)
}

func (p plain) names(tenant string, s *match.Set) []string {
	return p.told(tenant, s, func(l api.Label) (string, bool) { return l.Name, true })
}

func (p plain) values(tenant string, s *match.Set, name string) []string {
	return p.told(tenant, s, func(l api.Label) (string, bool) { return l.Value, l.Name == name })
}

func (p plain) size() (int, int) {
	keys, entries := map[string]int{}, 0
	for tenant, l := range p {
		for _, one := range l {
			keys[fmt.Sprintf("%q", tenant)]++
			entries++
			for _, x := range one {
				keys[fmt.Sprintf("%q %q %q", tenant, x.Name, x.Value)]++
				entries++
			}
		}
	}
	return len(keys), entries
}

func (p plain) drop(tenant string) int {
	n := len(p[tenant])
	delete(p, tenant)
	return n
}

// pair is an index, and what the words make of it.
type pair struct {
	index   *Index
	plain   plain
	tenants []string // all that are asked of
}

func newPair(tenants ...string) pair {
	return pair{New(), plain{}, tenants}
}

func (a pair) add(t *testing.T, tenant string, l []api.Label) {
	t.Helper()
	want, wantFresh, wantE := a.plain.add(tenant, l)
	if id, fresh, e := a.index.Add(tenant, l); id != want || fresh != wantFresh || e != wantE {
		t.Fatalf("M1: Add(%q, %v): %d, %v, %d; want %d, %v, %d", tenant, l, id, fresh, e, want, wantFresh, wantE)
	}
}

func (a pair) drop(t *testing.T, tenant string) {
	t.Helper()
	want := a.plain.drop(tenant)
	if n := a.index.Drop(tenant); n != want {
		t.Fatalf("M4: Drop(%q): %d; want %d", tenant, n, want)
	}
}

// agreeOn holds what is told of a tenant by a set against the words.
func (a pair) agreeOn(t *testing.T, tenant string, s *match.Set, names []string) {
	t.Helper()
	if got, want := a.index.Select(tenant, s), a.plain.chosen(tenant, s); !slices.Equal(got, want) {
		t.Fatalf("M2: Select(%q, %v): %v; want %v, of %v", tenant, s.List(), got, want, a.plain[tenant])
	}
	if got, want := a.index.Names(tenant, s), a.plain.names(tenant, s); !slices.Equal(got, want) {
		t.Fatalf("M3: Names(%q, %v): %q; want %q", tenant, s.List(), got, want)
	}
	for _, name := range names {
		if got, want := a.index.Values(tenant, s, name), a.plain.values(tenant, s, name); !slices.Equal(got, want) {
			t.Fatalf("M3: Values(%q, %v, %q): %q; want %q", tenant, s.List(), name, got, want)
		}
	}
}

// agree holds what is told without matchers against the words, and asks twice, as asking changes nothing.
func (a pair) agree(t *testing.T, series ...[]api.Label) {
	t.Helper()
	for range 2 {
		keys, entries := a.index.Size()
		if wantK, wantE := a.plain.size(); keys != wantK || entries != wantE {
			t.Fatalf("M4: Size: %d, %d; want %d, %d", keys, entries, wantK, wantE)
		}
		for _, tenant := range a.tenants {
			a.agreeOnNumbers(t, tenant)
			for _, l := range series {
				id, ok := a.index.Find(tenant, l)
				if want, has := a.plain.find(tenant, l); id != want || ok != has {
					t.Fatalf("M1: Find(%q, %v): %d, %v; want %d, %v", tenant, l, id, ok, want, has)
				}
			}
		}
	}
}

func (a pair) agreeOnNumbers(t *testing.T, tenant string) {
	t.Helper()
	count := len(a.plain[tenant])
	if n := a.index.Len(tenant); n != count {
		t.Fatalf("M1: Len(%q): %d; want %d", tenant, n, count)
	}
	for id := -1; id <= count; id++ {
		l, ok := a.index.Labels(tenant, id)
		if id < 0 || id == count {
			if l != nil || ok {
				t.Fatalf("M1: Labels(%q, %d): %v, %v", tenant, id, l, ok)
			}
			continue
		}
		if !ok || !slices.Equal(l, a.plain[tenant][id]) {
			t.Fatalf("M1: Labels(%q, %d): %v, %v; want %v", tenant, id, l, ok, a.plain[tenant][id])
		}
	}
}

// someSeries are all right sets of three names and two values, or none of them, under each.
func someSeries() [][]api.Label {
	var out [][]api.Label
	for _, a := range []string{"", "x", "y"} {
		for _, b := range []string{"", "x", "xy"} {
			for _, c := range []string{"", "z", "\x00"} {
				if l := withValues("a", a, "b", b, "c", c); len(l) > 0 {
					out = append(out, l)
				}
			}
		}
	}
	return out
}

// someMatchers are of names that series have, and of one that none has; they hold, or do not, where there is no label.
func someMatchers() []api.Matcher {
	var out []api.Matcher
	for _, name := range []string{"a", "b", "c", "q"} {
		for _, op := range []int{api.OpIs, api.OpNot} {
			for _, text := range []string{"", "x", "y", "xy", "\x00"} {
				out = append(out, api.Matcher{Name: name, Op: op, Text: text})
			}
		}
		for _, op := range []int{api.OpLike, api.OpUnlike} {
			for _, text := range []string{"", "x", "x|y", "x?", ".*", ".+", ".", "[^x]*", "x.*|z", "|", "[^\x00-\U0010ffff]"} {
				out = append(out, api.Matcher{Name: name, Op: op, Text: text})
			}
		}
	}
	return out
}

// Every pair of matchers over all series, and over some of them.
func TestSelectByTheWords(t *testing.T) {
	r := rand.New(rand.NewSource(1))
	series, matchers := someSeries(), someMatchers()
	for round := range 4 {
		a := newPair("t", "u", "v")
		for _, i := range r.Perm(len(series)) {
			if round == 0 || r.Intn(3) == 0 {
				a.add(t, "t", series[i])
			}
			if r.Intn(2) == 0 {
				a.add(t, "u", series[i])
			}
		}
		a.agree(t, series...)
		for i, one := range matchers {
			a.agreeOn(t, "t", setOfMatchers(t, one), []string{"a", "b", "c", "q", "", "1"})
			for _, two := range matchers[i:] {
				s := setOfMatchers(t, one, two)
				a.agreeOn(t, "t", s, nil)
				a.agreeOn(t, "u", s, nil)
				a.agreeOn(t, "v", s, nil)
			}
		}
	}
}

// All runs of five steps, each one of all that may be done with two tenants and three series.
func TestAllShortRunsByTheWords(t *testing.T) {
	series := [][]api.Label{labels("a", "x"), labels("a", "x", "b", "y"), labels("b", "y")}
	var steps []func(*testing.T, pair)
	for _, tenant := range []string{"t", ""} {
		for _, l := range series {
			steps = append(steps, func(t *testing.T, a pair) { a.add(t, tenant, l) })
		}
		steps = append(steps, func(t *testing.T, a pair) { a.drop(t, tenant) })
	}
	sets := []*match.Set{parsed(t, "{}"), parsed(t, `{a="x"}`), parsed(t, `{a!="x"}`), parsed(t, `{b=~".*"}`), parsed(t, `{b!=""}`)}
	runs := 1
	for range 5 {
		runs *= len(steps)
	}
	for run := range runs {
		a := newPair("t", "")
		for range 5 {
			steps[run%len(steps)](t, a)
			run /= len(steps)
		}
		a.agree(t, series...)
		for _, s := range sets {
			a.agreeOn(t, "t", s, []string{"a"})
			a.agreeOn(t, "", s, []string{"b"})
		}
	}
}

// Tenants that could be taken for one another, or for their labels, if names were put together carelessly.
var alike = []string{"t", "", "ta", "t\x00a", "a", "t\x00a\x00x", "x", "T", "\xff", "t "}

func TestLongRunsByTheWords(t *testing.T) {
	r := rand.New(rand.NewSource(2))
	series, matchers := someSeries(), someMatchers()
	for range 10 {
		a := newPair(alike...)
		for step := range 600 {
			tenant := alike[r.Intn(len(alike))]
			switch r.Intn(20) {
			case 0:
				a.drop(t, tenant)
			case 1:
				a.add(t, tenant, wrongLabels()[r.Intn(len(wrongLabels()))])
			default:
				a.add(t, tenant, series[r.Intn(len(series))])
			}
			var l []api.Matcher
			for range r.Intn(5) {
				l = append(l, matchers[r.Intn(len(matchers))])
			}
			a.agreeOn(t, alike[r.Intn(len(alike))], setOfMatchers(t, l...), []string{"a", "b", "c", "q"})
			if step%50 == 49 {
				a.agree(t, append(wrongLabels(), series...)...)
			}
		}
	}
}

// toldOf is all that an index tells of a tenant.
func toldOf(t *testing.T, x *Index, tenant string) string {
	t.Helper()
	out := fmt.Sprintln(x.Len(tenant))
	for _, l := range someSeries() {
		id, ok := x.Find(tenant, l)
		out += fmt.Sprintln(id, ok)
	}
	for id := range x.Len(tenant) + 1 {
		l, ok := x.Labels(tenant, id)
		out += fmt.Sprintln(l, ok)
	}
	for _, m := range someMatchers() {
		s := setOfMatchers(t, m)
		out += fmt.Sprintln(x.Select(tenant, s), x.Names(tenant, s), x.Values(tenant, s, "a"), x.Values(tenant, s, "b"))
	}
	return out
}

// Two indexes: to both comes the same of one tenant, and whatever it likes of the others.
func TestTenantsAreApart(t *testing.T) {
	r := rand.New(rand.NewSource(3))
	series := someSeries()
	for range 30 {
		one, two := New(), New()
		for range 60 {
			others := alike[1+r.Intn(len(alike)-1)]
			some := []*Index{one, two}[r.Intn(2)]
			if l := series[r.Intn(len(series))]; r.Intn(8) > 0 {
				some.Add(others, l)
			} else {
				some.Drop(others)
			}
			l := series[r.Intn(len(series))]
			id, fresh, e := one.Add("t", l)
			if id2, fresh2, e2 := two.Add("t", l); id != id2 || fresh != fresh2 || e != e2 {
				t.Fatalf("apart: Add(%v): %d, %v and %d, %v", l, id, fresh, id2, fresh2)
			}
			if r.Intn(20) == 0 && one.Drop("t") != two.Drop("t") {
				t.Fatal("apart: Drop")
			}
		}
		if toldOf(t, one, "t") != toldOf(t, two, "t") {
			t.Fatal("what is told of a tenant hangs on others")
		}
	}
}

// Behind Drop all is as in an index to which the tenant never came; so is what comes then.
func TestBehindDropNothingIsLeft(t *testing.T) {
	r := rand.New(rand.NewSource(4))
	series := someSeries()
	for range 20 {
		with, without := New(), New()
		for range 80 {
			tenant, l := alike[r.Intn(len(alike))], series[r.Intn(len(series))]
			with.Add(tenant, l)
			if tenant != "t" {
				without.Add(tenant, l)
			}
		}
		with.Drop("t")
		for range 3 {
			keys, entries := with.Size()
			if k, e := without.Size(); keys != k || entries != e {
				t.Fatalf("M4: Size behind Drop: %d, %d; want %d, %d", keys, entries, k, e)
			}
			for _, tenant := range alike {
				if toldOf(t, with, tenant) != toldOf(t, without, tenant) {
					t.Fatalf("M4: Drop of t changed what is told of %q", tenant)
				}
			}
			l := series[r.Intn(len(series))]
			with.Add("t", l)
			without.Add("t", l)
		}
	}
}
