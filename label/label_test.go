package label

import (
	"math/rand"
	"slices"
	"sort"
	"strings"
	"testing"

	"turnkey/api"
)

// set makes labels of names and values in turn.
func set(words ...string) []api.Label {
	var out []api.Label
	for i := 0; i < len(words); i += 2 {
		out = append(out, api.Label{Name: words[i], Value: words[i+1]})
	}
	return out
}

// row makes n labels of one letter each, rising.
func row(n int) []api.Label {
	var out []api.Label
	for i := range n {
		out = append(out, api.Label{Name: string(rune('a' + i)), Value: "1"})
	}
	return out
}

// rightSets: each by its names rising.
func rightSets() [][]api.Label {
	return [][]api.Label{
		set("a", "x"), set("a", "x", "b", "y"),
		set("A", "1", "Z", "2", "_", "3", "a", "4", "z", "5"),
		set("a", "x", "a0", "y", "a00", "z"), set("a9", "1", "aA", "2", "a_", "3", "aa", "4"),
		set("_", "x"), set("__9", "x"),
		row(api.MaxLabels),
		set(strings.Repeat("n", api.MaxLabel), strings.Repeat("v", api.MaxValue)),
		set("a", strings.Repeat("é", api.MaxValue/2)),
		set("a", "\x00"), set("a", "\ufffd"), set("a", "\U0010ffff"), set("a", " "), set("a", "\"\\\n"),
		set("a", "same", "b", "same"),
	}
}

// wrongSets: none of which is right in any order.
func wrongSets() [][]api.Label {
	return [][]api.Label{
		nil, {}, row(api.MaxLabels + 1), row(26),
		set("a", "x", "a", "x"), set("a", "x", "a", "y"), set("a", "x", "b", "y", "a", "z"),
		set("a", ""), set("a", "x", "b", ""), set("", "x"), set("", ""),
		set("1a", "x"), set("9", "x"), set("a-b", "x"), set("a b", "x"), set("a ", "x"), set(" a", "x"), set("é", "x"), set("a\x00", "x"), set("a\xff", "x"),
		set("@", "x"), set("[", "x"), set("`", "x"), set("{", "x"), set("a/", "x"), set("a:", "x"), set("a@", "x"), set("a[", "x"), set("a^", "x"), set("a`", "x"), set("a{", "x"),
		set(strings.Repeat("n", api.MaxLabel+1), "x"), set("a", strings.Repeat("v", api.MaxValue+1)), set("a", strings.Repeat("é", api.MaxValue/2)+"v"),
		set("a", "\xff"), set("a", "x\x80"), set("a", "\xc3"), set("a", "\xed\xa0\x80"), set("a", "\xc0\x80"), set("a", "\xf4\x90\x80\x80"),
		set("a", "x", "b", "\xff"), set("a", "x", "b1", "y", "1b", "z"),
	}
}

func TestRightOfRightSets(t *testing.T) {
	for _, l := range rightSets() {
		if e := Right(l); e != api.OK {
			t.Errorf("Right(%q) = %d", l, e)
		}
	}
}

func TestRightOfWrongSets(t *testing.T) {
	unsorted := [][]api.Label{set("b", "y", "a", "x"), set("a", "x", "c", "y", "b", "z"), set("a", "1", "Z", "2"), set("a0", "1", "a", "2")}
	for _, l := range append(wrongSets(), unsorted...) {
		if e := Right(l); e != api.ErrLabels {
			t.Errorf("Right(%q) = %d", l, e)
		}
		if s := Print(l); s != "" {
			t.Errorf("Print(%q) = %q", l, s)
		}
	}
}

func TestSortOfAnyOrder(t *testing.T) {
	r := rand.New(rand.NewSource(7))
	for _, want := range rightSets() {
		for range 20 {
			l := slices.Clone(want)
			r.Shuffle(len(l), func(i, k int) { l[i], l[k] = l[k], l[i] })
			was := slices.Clone(l)
			got, e := Sort(l)
			if e != api.OK || !slices.Equal(got, want) {
				t.Errorf("Sort(%q) = %q, %d", l, got, e)
			}
			if !slices.Equal(l, was) {
				t.Errorf("Sort wrote into what it was handed: %q, was %q", l, was)
			}
		}
	}
}

func TestSortOfWrongSets(t *testing.T) {
	for _, l := range wrongSets() {
		if got, e := Sort(l); got != nil || e != api.ErrLabels {
			t.Errorf("Sort(%q) = %q, %d", l, got, e)
		}
	}
}

func TestSortIsNewMemory(t *testing.T) {
	l := append(make([]api.Label, 0, 8), set("a", "x", "b", "y")...)
	one, _ := Sort(l)
	two, _ := Sort(l)
	scribble(one)
	if !slices.Equal(l[:2], set("a", "x", "b", "y")) || !slices.Equal(two, l) {
		t.Errorf("what Sort answers is shared: %q, %q", l, two)
	}
	if l[:3][2] != (api.Label{}) {
		t.Error("Sort's answer lies behind what was handed in")
	}
}

// scribble writes over a list and over its spare room.
func scribble(l []api.Label) {
	l = l[:cap(l)]
	for i := range l {
		l[i] = api.Label{Name: "scribble", Value: "scribble"}
	}
}

func TestGet(t *testing.T) {
	for _, c := range []struct {
		l          []api.Label
		name, want string
	}{
		{set("a", "x", "b", "y"), "a", "x"}, {set("a", "x", "b", "y"), "b", "y"}, {set("a", "x"), "c", ""}, {nil, "a", ""},
		{set("a", "x", "a", "y"), "a", "x"}, {set("a", "", "a", "y"), "a", ""},
		{set("b", "x", "a", "y"), "a", "y"}, {set("", "x"), "", "x"}, {set("a", "x"), "", ""}, {set("é \xff", "\xff"), "é \xff", "\xff"}, {set("a", "x"), "A", ""}, {set("aa", "x"), "a", ""}, {set("a", "x"), "aa", ""},
		{append(row(26), api.Label{Name: "zz", Value: "last"}), "zz", "last"},
	} {
		if got := Get(c.l, c.name); got != c.want {
			t.Errorf("Get(%q, %q) = %q, not %q", c.l, c.name, got, c.want)
		}
	}
}

// risingLists: each stands ahead of those behind it.
func risingLists() [][]api.Label {
	return [][]api.Label{
		nil,
		set("", ""), set("", "", "", ""), set("", "x"),
		set("A", "z"), set("a", ""), set("a", "", "a", ""), set("a", "", "b", ""),
		set("a", "x"), set("a", "x", "a", "x"), set("a", "x", "b", "y"), set("a", "x", "b", "y", "", ""), set("a", "x", "b", "z"), set("a", "x", "c", ""),
		set("a", "x\x00"), set("a", "xa"), set("a", "y"), set("a", "\x7f"), set("a", "\x80"), set("a", "\xff"),
		set("a\x00", ""), set("aa", ""), set("b", "", "a", ""), set("b", "a"), set("\xff", ""),
	}
}

func TestCmpOfRisingLists(t *testing.T) {
	lists := risingLists()
	for i, a := range lists {
		for k, b := range lists {
			want := 0
			if i < k {
				want = -1
			} else if i > k {
				want = 1
			}
			if got := Cmp(a, slices.Clone(b)); got != want {
				t.Errorf("Cmp(%q, %q) = %d, not %d", a, b, got, want)
			}
		}
	}
	if Cmp(nil, []api.Label{}) != 0 || Cmp([]api.Label{}, nil) != 0 {
		t.Error("two lists of nothing are unlike")
	}
}

// TestCmpIsAnOrder: lists that are sorted by it, in whatever order they came, stand alike.
func TestCmpIsAnOrder(t *testing.T) {
	r := rand.New(rand.NewSource(1))
	texts := []string{"", "a", "ab", "b", "\xff"}
	var lists [][]api.Label
	for range 300 {
		var l []api.Label
		for range r.Intn(4) {
			l = append(l, api.Label{Name: texts[r.Intn(len(texts))], Value: texts[r.Intn(len(texts))]})
		}
		lists = append(lists, l)
	}
	sort.Slice(lists, func(i, k int) bool { return Cmp(lists[i], lists[k]) < 0 })
	for i, a := range lists {
		for k, b := range lists {
			got := Cmp(a, b)
			if got != -Cmp(b, a) || (got == 0) != slices.Equal(a, b) || i < k && got > 0 {
				t.Fatalf("Cmp(%q, %q) = %d at %d, %d", a, b, got, i, k)
			}
		}
	}
}
