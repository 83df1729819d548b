package match

import (
	"math/rand"
	"regexp"
	"slices"
	"strings"
	"testing"

	"turnkey/api"
)

const opIs, opNot, opLike, opUnlike = api.OpIs, api.OpNot, api.OpLike, api.OpUnlike

func m(name string, op int, text string) api.Matcher {
	return api.Matcher{Name: name, Op: op, Text: text}
}

// labels makes labels of names and values in turn.
func labels(words ...string) []api.Label {
	var out []api.Label
	for i := 0; i < len(words); i += 2 {
		out = append(out, api.Label{Name: words[i], Value: words[i+1]})
	}
	return out
}

func setOf(t *testing.T, l ...api.Matcher) *Set {
	t.Helper()
	s, e := New(l)
	if e != api.OK || s == nil {
		t.Fatalf("New(%v) = %v, %d", l, s, e)
	}
	return s
}

// row makes n matchers that may be, no two alike.
func row(n int) []api.Matcher {
	var out []api.Matcher
	for i := range n {
		out = append(out, m(string(rune('a'+i)), 1+i%4, "1"))
	}
	return out
}

// rightMatchers: each may be.
func rightMatchers() []api.Matcher {
	return []api.Matcher{
		m("a", opIs, "x"), m("a", opNot, "x"), m("a", opLike, "x"), m("a", opUnlike, "x"),
		m("a", opIs, ""), m("a", opNot, ""), m("a", opLike, ""), m("a", opUnlike, ""),
		m("_", opIs, "x"), m("Z9_", opIs, "x"), m(strings.Repeat("n", 32), opIs, strings.Repeat("v", 64)),
		m("a", opIs, strings.Repeat("é", 32)), m("a", opNot, "\x00"), m("a", opIs, "\"\\\n"), m("a", opNot, "("), m("a", opIs, "*"), m("a", opIs, "\U0010ffff"),
		m("a", opLike, strings.Repeat("v", 64)), m("a", opLike, "x|y"), m("a", opUnlike, "(x|y)*[^z]\\.?"), m("a", opLike, "\n\""), m("a", opLike, "|"),
	}
}

// wrongMatchers: none may be.
func wrongMatchers() []api.Matcher {
	return []api.Matcher{
		{}, m("", opIs, "x"), m("", opLike, "x"), m("1a", opIs, "x"), m("1a", opUnlike, "x"), m("a-b", opIs, "x"), m(" a", opNot, "x"), m("a ", opIs, ""), m("é", opLike, ""), m("a\x00", opIs, "x"),
		m(strings.Repeat("n", 33), opIs, ""), m(strings.Repeat("n", 33), opNot, "x"), m(strings.Repeat("n", 33), opLike, "x"),
		m("a", 0, "x"), m("a", 5, "x"), m("a", -1, "x"), m("a", 1<<40+1, "x"), m("a", -1<<63, ""), m("a", 0, ""),
		m("a", opIs, "\xff"), m("a", opNot, "\xff"), m("a", opLike, "\xff"), m("a", opUnlike, "x\xff"), m("a", opIs, "x\xc3"), m("a", opNot, "\xed\xa0\x80"),
		m("a", opIs, strings.Repeat("v", 65)), m("a", opNot, strings.Repeat("v", 65)), m("a", opLike, strings.Repeat("v", 65)), m("a", opUnlike, strings.Repeat("v", 65)),
		m("a", opLike, "("), m("a", opUnlike, "("), m("a", opLike, "a**"), m("a", opUnlike, "[b-a]"), m("a", opLike, "x-y"), m("a", opLike, "\\x"), m("a", opUnlike, "*"),
	}
}

func TestNewOfRightMatchers(t *testing.T) {
	for _, one := range rightMatchers() {
		if got := setOf(t, one).List(); !slices.Equal(got, []api.Matcher{one}) {
			t.Errorf("List of %v = %v", one, got)
		}
	}
	for n := range api.MaxMatchers + 1 {
		l := row(n)
		if got := setOf(t, l...).List(); !slices.Equal(got, l) {
			t.Errorf("List of %v = %v", l, got)
		}
	}
	twice := []api.Matcher{m("b", opIs, "x"), m("a", opIs, "x"), m("b", opIs, "x")}
	if got := setOf(t, twice...).List(); !slices.Equal(got, twice) {
		t.Errorf("List of %v = %v", twice, got)
	}
	if s, e := New([]api.Matcher{}); e != api.OK || s == nil || len(s.List()) != 0 {
		t.Errorf("New of none = %v, %d", s, e)
	}
}

func TestNewOfWrongMatchers(t *testing.T) {
	good := m("a", opIs, "x")
	for _, one := range wrongMatchers() {
		for _, l := range [][]api.Matcher{{one}, {good, one}, {one, good}, {good, one, good}, append(row(7), one)} {
			if s, e := New(l); s != nil || e != api.ErrMatch {
				t.Errorf("New(%v) = %v, %d", l, s, e)
			}
			if got := Print(l); got != "" {
				t.Errorf("Print(%v) = %q", l, got)
			}
		}
	}
	for _, l := range [][]api.Matcher{row(9), row(26), append(row(8), api.Matcher{}), make([]api.Matcher, 1<<16), slices.Repeat([]api.Matcher{good}, 9)} {
		if s, e := New(l); s != nil || e != api.ErrMatch {
			t.Errorf("New of %d = %v, %d", len(l), s, e)
		}
		if got := Print(l); got != "" {
			t.Errorf("Print of %d = %q", len(l), got)
		}
	}
}

func TestHolds(t *testing.T) {
	both := labels("a", "x", "b", "y")
	for _, c := range []struct {
		l    []api.Label
		m    api.Matcher
		want bool
	}{
		{both, m("a", opIs, "x"), true}, {both, m("a", opNot, ""), true}, {both, m("c", opIs, ""), true}, {both, m("c", opNot, "z"), true},
		{both, m("b", opLike, "x|y"), true}, {both, m("c", opLike, "z*"), true}, {both, m("a", opUnlike, "y.*"), true},
		{both, m("a", opIs, ""), false}, {both, m("c", opNot, ""), false}, {both, m("c", opLike, "."), false}, {both, m("b", opUnlike, "."), false},
		{both, m("a", opIs, "y"), false}, {both, m("a", opIs, "xx"), false}, {both, m("A", opIs, "x"), false},
		// An op of values takes signs as they are; a pattern means whole values.
		{both, m("a", opIs, "."), false}, {both, m("a", opNot, "."), true}, {labels("a", "xy"), m("a", opLike, "x"), false}, {labels("a", "xy"), m("a", opLike, "y"), false}, {labels("a", "xy"), m("a", opUnlike, "x"), true},
		{labels("a", "."), m("a", opLike, `\.`), true}, {both, m("a", opLike, `\.`), false},
		{nil, m("a", opIs, ""), true}, {nil, m("a", opNot, ""), false}, {nil, m("a", opLike, ""), true}, {nil, m("a", opUnlike, ""), false}, {nil, m("a", opNot, "x"), true}, {nil, m("a", opIs, "x"), false},
		// Lists that are no right sets: the first label of a name counts.
		{labels("a", "x", "a", "y"), m("a", opIs, "x"), true}, {labels("a", "x", "a", "y"), m("a", opIs, "y"), false}, {labels("a", "", "a", "y"), m("a", opIs, ""), true}, {labels("b", "y", "a", "x"), m("a", opIs, "x"), true},
		{labels("a", "\xff"), m("a", opLike, ".*"), false}, {labels("a", "\xff"), m("a", opUnlike, ".*"), true}, {labels("a", "\xff"), m("a", opNot, "x"), true},
		{labels("a", strings.Repeat("x", 99)), m("a", opLike, "x*"), true}, {labels("a", "\n"), m("a", opLike, "."), true}, {labels("a", "é"), m("a", opLike, "."), true},
	} {
		if got := setOf(t, c.m).Holds(c.l); got != c.want {
			t.Errorf("%q holds %v: %v", c.l, c.m, got)
		}
	}
}

func TestHoldsOfSeveral(t *testing.T) {
	both := labels("a", "x", "b", "y")
	for _, c := range []struct {
		l    []api.Matcher
		want bool
	}{
		{nil, true},
		{[]api.Matcher{m("a", opIs, "x"), m("b", opIs, "y")}, true},
		{[]api.Matcher{m("a", opIs, "x"), m("b", opIs, "x")}, false},
		{[]api.Matcher{m("a", opIs, "y"), m("b", opIs, "y")}, false},
		{[]api.Matcher{m("a", opIs, "x"), m("a", opIs, "y")}, false},
		{[]api.Matcher{m("a", opIs, "x"), m("a", opIs, "x"), m("a", opNot, "y"), m("a", opLike, "[a-z]"), m("a", opUnlike, "[^x]")}, true},
		{[]api.Matcher{m("a", opIs, "x"), m("b", opUnlike, "z"), m("c", opLike, ""), m("b", opNot, "y")}, false},
	} {
		if got := setOf(t, c.l...).Holds(both); got != c.want {
			t.Errorf("%q holds %v: %v", both, c.l, got)
		}
	}
	if !setOf(t).Holds(nil) {
		t.Error("no labels do not hold no matchers")
	}
	nothing := setOf(t, m("a", opIs, "x"), m("a", opIs, "y"))
	for _, v := range []string{"", "x", "y", "xy"} {
		if nothing.Holds(labels("a", v)) {
			t.Errorf("a=%q holds two values at once", v)
		}
	}
}

// TestHoldsIsQuick: eight patterns that make a reader who tries all ways slow.
func TestHoldsIsQuick(t *testing.T) {
	slow := m("a", opUnlike, "((a*)*)*b")
	s := setOf(t, slow, slow, slow, slow, slow, slow, slow, slow)
	if !s.Holds(labels("a", strings.Repeat("a", 5000))) {
		t.Error("a pattern means what it does not")
	}
}

func TestAnd(t *testing.T) {
	one, two := row(8), []api.Matcher{m("z", opIs, "1"), m("a", opNot, "2")}
	a, b := setOf(t, one...), setOf(t, two...)
	for _, c := range []struct {
		s    *Set
		want []api.Matcher
	}{
		{And(a, b), slices.Concat(one, two)}, {And(b, a), slices.Concat(two, one)}, {And(a, a), slices.Concat(one, one)},
		{And(setOf(t), b), two}, {And(b, setOf(t)), two}, {And(setOf(t), setOf(t)), nil},
		{And(And(b, a), And(a, b)), slices.Concat(two, one, one, two)},
	} {
		if got := c.s.List(); !slices.Equal(got, c.want) {
			t.Errorf("And: %v, not %v", got, c.want)
		}
	}
	if !slices.Equal(a.List(), one) || !slices.Equal(b.List(), two) {
		t.Errorf("And changed what it was handed: %v, %v", a.List(), b.List())
	}
	if got := Print(And(a, b).List()); got != "" {
		t.Errorf("Print of ten matchers: %q", got)
	}
	if got := Print(And(b, setOf(t, m("c", opLike, "x"))).List()); got != `{z="1", a!="2", c=~"x"}` {
		t.Errorf("Print of three matchers: %s", got)
	}
}

// TestAndTwiceOfOne: sets that are made of one and the same have nothing to do with one another.
func TestAndTwiceOfOne(t *testing.T) {
	base := And(And(setOf(t, row(3)...), setOf(t, row(1)...)), setOf(t, row(1)...))
	x := And(base, setOf(t, m("v", opIs, "x")))
	y := And(base, setOf(t, m("v", opIs, "y")))
	if got := x.List()[5]; got != m("v", opIs, "x") {
		t.Errorf("the first set's last matcher is %v", got)
	}
	if got := y.List()[5]; got != m("v", opIs, "y") {
		t.Errorf("the second set's last matcher is %v", got)
	}
	if len(base.List()) != 5 {
		t.Errorf("the set that both are made of is %v", base.List())
	}
}

// scribble writes over a list and over its spare room.
func scribble(l []api.Matcher) {
	l = l[:cap(l)]
	for i := range l {
		l[i] = m("scribble", opNot, "scribble")
	}
}

func TestListsAreTheirOwners(t *testing.T) {
	l := append(make([]api.Matcher, 0, 8), m("a", opIs, "x"), m("b", opLike, "y"))
	want := slices.Clone(l)
	s := setOf(t, l...)
	both := And(s, s)
	if l[:3][2] != (api.Matcher{}) || !slices.Equal(l, want) {
		t.Errorf("New wrote into what it was handed: %v", l[:8])
	}
	one := s.List()
	scribble(l)
	scribble(one)
	scribble(both.List())
	if !slices.Equal(s.List(), want) || !slices.Equal(both.List(), slices.Concat(want, want)) {
		t.Errorf("a set's matchers are shared: %v, %v", s.List(), both.List())
	}
	if x := labels("a", "x", "b", "y"); !s.Holds(x) || !both.Holds(x) || s.Holds(labels("a", "x", "b", "z")) {
		t.Error("a set holds by what others have written")
	}
	seen := append(make([]api.Label, 0, 4), labels("a", "x", "b", "y")...)
	s.Holds(seen)
	if !slices.Equal(seen[:4], append(labels("a", "x", "b", "y"), api.Label{}, api.Label{})) {
		t.Errorf("Holds wrote into what it was handed: %q", seen[:4])
	}
}

// plainHolds is the chapter's word of one matcher, by other means than the program's.
func plainHolds(l []api.Label, one api.Matcher) bool {
	value := ""
	for i := len(l) - 1; i >= 0; i-- {
		if l[i].Name == one.Name {
			value = l[i].Value
		}
	}
	switch one.Op {
	case 1:
		return value == one.Text
	case 2:
		return value != one.Text
	}
	means := regexp.MustCompile(`(?s)\A(?:` + one.Text + `)\z`).MatchString(value)
	return means == (one.Op == 3)
}

// TestHoldsOfRandomSets: Holds is that of each matcher; of And that of both; whatever the order; and of an op and its contrary one alone is held.
func TestHoldsOfRandomSets(t *testing.T) {
	r := rand.New(rand.NewSource(9))
	names, values := []string{"a", "b", "c"}, []string{"", "x", "y", "xy", "é"}
	texts := []string{"", "x", "y", "xy", "x|y", ".", ".*", "[^x]", "x?y?", "(x|é)+"}
	pick := func(l []string) string { return l[r.Intn(len(l))] }
	random := func() []api.Matcher {
		var out []api.Matcher
		for range r.Intn(4) {
			out = append(out, m(pick(names), 1+r.Intn(4), pick(texts)))
		}
		return out
	}
	held := 0
	for range 20000 {
		var l []api.Label
		for range r.Intn(4) {
			l = append(l, api.Label{Name: pick(names), Value: pick(values)})
		}
		one, two := random(), random()
		a, b := setOf(t, one...), setOf(t, two...)
		want := true
		for _, x := range one {
			want = want && plainHolds(l, x)
		}
		if got := a.Holds(l); got != want {
			t.Fatalf("%q holds %v: %v", l, one, got)
		}
		if want {
			held++
		}
		if And(a, b).Holds(l) != (a.Holds(l) && b.Holds(l)) || And(a, b).Holds(l) != And(b, a).Holds(l) {
			t.Fatalf("%q holds %v and %v otherwise than both", l, one, two)
		}
		for _, x := range one {
			contrary := x
			contrary.Op = []int{0, 2, 1, 4, 3}[x.Op]
			if setOf(t, x).Holds(l) == setOf(t, contrary).Holds(l) {
				t.Fatalf("%q holds %v as it holds its contrary", l, x)
			}
		}
	}
	if held < 2000 || held > 18000 {
		t.Errorf("%d of the random sets are held", held)
	}
}
