package tenant

import (
	"fmt"
	"math"
	"slices"
	"testing"

	"turnkey/api"
	"turnkey/match"
)

// asked is two tenants with series of the same labels, but for some.
func asked(t *testing.T) *Tenants {
	t.Helper()
	x := made(t, 20)
	for _, c := range []api.Change{
		makes("t", 9, 900), makes("u", 9, 900),
		writes("t", 0, a("y", 1, 5), with(labels("b", "2"), -7, 4), with(labels("a", "x", "b", "1"), 3), a("x", 2)),
		writes("u", 0, a("x", 100), with(labels("c", "9"), 3)),
	} {
		does(t, x, c, api.OK)
	}
	return x
}

func TestSelect(t *testing.T) {
	x := asked(t)
	ax, ab, ay, b := a("x", 2), with(labels("a", "x", "b", "1"), 3), a("y", 1, 5), with(labels("b", "2"), -7, 4)
	for _, one := range []struct {
		text     string
		from, to int64
		want     []api.Series
	}{
		{"{}", math.MinInt64, math.MaxInt64, []api.Series{ax, ab, ay, b}},
		{"{}", 2, 4, []api.Series{ax, ab, with(labels("b", "2"), 4)}},
		{"{}", 5, 5, []api.Series{a("y", 5)}},
		{"{}", 1, 1, []api.Series{a("y", 1)}},
		{"{}", -7, -7, []api.Series{with(labels("b", "2"), -7)}},
		{"{}", 6, math.MaxInt64, nil}, {"{}", 5, 4, nil}, {"{}", math.MaxInt64, math.MinInt64, nil}, {"{}", -6, 0, nil},
		{`{a="x"}`, 0, 9, []api.Series{ax, ab}}, {`{a!="x"}`, 0, 9, []api.Series{ay, with(labels("b", "2"), 4)}}, {`{b=""}`, 0, 9, []api.Series{ax, ay}},
		{`{a=~"x|y", b!~"1"}`, 0, 2, []api.Series{ax, a("y", 1)}}, {`{c="9"}`, 0, 9, nil}, {`{a="x", a="y"}`, 0, 9, nil},
	} {
		if l := x.Select("t", set(t, one.text), one.from, one.to); !slices.EqualFunc(l, one.want, sameSeries) {
			t.Errorf("Q3: Select by %s from %d to %d: %v; want %v", one.text, one.from, one.to, l, one.want)
		}
	}
}

func sameSeries(a, b api.Series) bool {
	return slices.Equal(a.Labels, b.Labels) && slices.Equal(a.Samples, b.Samples)
}

func TestCountNamesValues(t *testing.T) {
	x := asked(t)
	for text, want := range map[string]string{
		"{}": "4 [a b] [x y] [1 2]", `{a="x"}`: "2 [a b] [x] [1]", `{a=""}`: "1 [b] [] [2]", `{b=""}`: "2 [a] [x y] []", `{a="z"}`: "0 [] [] []", `{c=""}`: "4 [a b] [x y] [1 2]", `{c!=""}`: "0 [] [] []",
	} {
		s := set(t, text)
		if got := fmt.Sprint(x.Count("t", s), x.Names("t", s), x.Values("t", s, "a"), x.Values("t", s, "b")); got != want {
			t.Errorf("Q3: by %s: %s; want %s", text, got, want)
		}
	}
	for _, name := range []string{"", "c", "1", "a ", "\xff", "a\x00", "A"} {
		if l := x.Values("t", set(t, "{}"), name); len(l) != 0 {
			t.Errorf("Q3: Values of %q: %q", name, l)
		}
	}
}

// What is told of two sets together is told of each.
func TestSeen(t *testing.T) {
	x := asked(t)
	texts := []string{"{}", `{a="x"}`, `{a!="x"}`, `{b=""}`, `{b=~"1|2"}`, `{a=~".", b!="2"}`}
	for _, one := range texts {
		for _, two := range texts {
			first, second := set(t, one), set(t, two)
			for _, s := range x.Select("t", match.And(first, second), 0, 4) {
				holds := func(other api.Series) bool { return sameSeries(s, other) }
				if !slices.ContainsFunc(x.Select("t", first, 0, 4), holds) || !slices.ContainsFunc(x.Select("t", second, 0, 4), holds) {
					t.Errorf("Q3: by %s and %s: %v", one, two, s)
				}
			}
		}
	}
}

// No answer hangs on the order in which series came, nor on how their samples did.
func TestOrderOfComingDoesNotShow(t *testing.T) {
	all := []api.Series{a("x", 1, 2), a("y", 1, 2), with(labels("a", "x", "b", "y"), 1, 2), with(labels("b", "y"), 1, 2)}
	want := ""
	for shift := range all {
		for _, whole := range []bool{true, false} {
			x := made(t, 9)
			does(t, x, makes("t", 9, 99), api.OK)
			l := slices.Concat(all[shift:], all[:shift])
			if whole {
				does(t, x, writes("t", 1, l...), api.OK)
			}
			for i := 0; i < 2*len(l) && !whole; i++ {
				one := l[i%len(l)]
				one.Samples = one.Samples[i/len(l) : i/len(l)+1]
				does(t, x, writes("t", 1, one), api.OK)
			}
			some := set(t, `{a!="y"}`)
			told := fmt.Sprint(x.Select("t", some, 1, 9), x.Count("t", some), x.Names("t", some), x.Values("t", some, "b"), x.Slots("t"), x.Size())
			if want == "" {
				want = told
			}
			if told != want {
				t.Errorf("Q3: %s; want %s", told, want)
			}
		}
	}
}

func TestRemovedTenantsAreGone(t *testing.T) {
	x, y := asked(t), made(t, 20)
	does(t, x, grants("t", "k", 15), api.OK)
	does(t, x, grants("u", "k", 3), api.OK)
	was := x.Size()
	does(t, x, removes("t"), api.OK)
	knowsNothing(t, x, "t")
	if _, e := x.Who("u", []byte("k")); e != api.OK || x.Size() >= was {
		t.Errorf("Q2: Who of another one: %d; Size %d, was %d", e, x.Size(), was)
	}
	does(t, x, removes("t"), api.ErrTenant)
	for _, c := range []api.Change{makes("u", 9, 900), writes("u", 0, a("x", 100), with(labels("c", "9"), 3)), grants("u", "k", 3)} {
		does(t, y, c, api.OK)
	}
	sameAll(t, x, y)
	// Made again it is new: times, windows and numbers begin anew.
	for _, z := range []*Tenants{x, y} {
		does(t, z, makes("t", 2, 3), api.OK)
		does(t, z, writes("t", 0, with(labels("z", "z"), -100), a("x", -100)), api.OK)
		does(t, z, revokes("t", "k"), api.ErrToken)
	}
	sameAll(t, x, y)
	does(t, x, removes("t"), api.OK)
	does(t, x, removes("u"), api.OK)
	sameAll(t, x, made(t, 20))
	if len(x.all.names) != 0 || x.all.bytes != 0 {
		t.Errorf("of tenants that are gone is kept: %v, %d", x.all.names, x.all.bytes)
	}
}

func sameAll(t *testing.T, x, y *Tenants) {
	t.Helper()
	if string(x.Save()) != string(y.Save()) || state(t, x) != state(t, y) {
		t.Errorf("Q2: %s\nwant %s", state(t, x), state(t, y))
	}
}

// What is done to others, between or not at all, changes nothing of a tenant but whether there is room.
func TestApart(t *testing.T) {
	theirs := []api.Change{
		makes("u", 1, 5), makes("t0", 3, 50), grants("u", "k", 1), grants("t0", "l", 2), writes("u", 9, a("x", 50)), writes("t0", 9, a("x", 50), a("q", 1)), removes("u"), makes("u", 9, 9),
		writes("u", 0, with(labels("a", "x", "b", "y"), 5), a("y", 1)), revokes("t0", "l"), removes("t0"),
	}
	ours := []api.Change{
		makes("t", 2, 5), grants("t", "k", 7), writes("t", 3, a("x", 10)), writes("t", 2, a("x", 10)), writes("t", 2, a("x", 11), a("y", 11)), writes("t", 2, a("z", 1)),
		writes("t", 3, a("x", 20, 21, 22)), revokes("t", "l"), grants("t", "k", 1), writes("t", 4, a("x", 20, 21, 22)), revokes("t", "k"),
	}
	tell := func(between []api.Change) string {
		x, out := made(t, 50), ""
		for i, c := range ours {
			for k := i; k < len(between); k += len(ours) {
				x.Do(between[k])
			}
			out += fmt.Sprintln(x.Check(c), x.Do(c))
			account, known := x.Account("t")
			g, e := x.Who("t", []byte("k"))
			all := set(t, "{}")
			out += fmt.Sprintln(account, known, g, e, x.Slots("t"), x.Select("t", all, 0, 99), x.Count("t", all), x.Names("t", all), x.Values("t", all, "a"))
		}
		return out
	}
	alone := tell(nil)
	for shift := range theirs {
		if among := tell(theirs[shift:]); among != alone {
			t.Errorf("Q: among others: %s\nalone: %s", among, alone)
		}
	}
}

func TestThingsAreApart(t *testing.T) {
	x, y := asked(t), made(t, 20)
	for _, name := range []string{"t", "u"} {
		knowsNothing(t, y, name)
	}
	was := state(t, x)
	does(t, y, makes("t", 1, 1), api.OK)
	does(t, y, writes("t", 0, a("x", 1)), api.OK)
	does(t, y, removes("t"), api.OK)
	if state(t, x) != was || y.Free() != 20 {
		t.Errorf("P4: %s; want %s", state(t, x), was)
	}
}

func TestWhatIsHandedInIsNotKept(t *testing.T) {
	x := made(t, 9)
	does(t, x, makes("t", 9, 99), api.OK)
	spare := []api.Series{a("x", 1, 2), a("y", 5), a("x", 3), a("spare", 1)}
	spare[0].Samples = append(spare[0].Samples, api.Sample{T: 77})[:2]
	c := writes("t", 0, spare[:3]...)
	was := fmt.Sprint(spare, spare[0].Samples[:3])
	does(t, x, c, api.OK)
	policy := []api.Matcher{{Name: "a", Op: api.OpIs, Text: "x"}, {Name: "spare"}}
	g := grants("t", "k", 1, policy[:1]...)
	does(t, x, g, api.OK)
	if fmt.Sprint(spare, spare[0].Samples[:3]) != was || policy[1].Name != "spare" {
		t.Errorf("P3: what is handed in is written into: %v, %v", spare, policy)
	}
	saved, told := string(x.Save()), state(t, x)
	for i := range spare {
		clear(spare[i].Labels)
		clear(spare[i].Samples)
	}
	clear(spare)
	clear(policy)
	if string(x.Save()) != saved || state(t, x) != told {
		t.Error("P3: what is handed in is kept")
	}
	b := x.Save()
	y, e := Load(b, 9)
	if e != api.OK || string(b) != saved {
		t.Fatalf("P3, Q4: Load: %d", e)
	}
	clear(b)
	if string(y.Save()) != saved || state(t, y) != told {
		t.Error("P3: the bytes that were loaded are kept")
	}
}

// scribble writes over all of a list, its spare room too, as its owner may.
func scribble[T any](l []T) {
	clear(l[:cap(l)])
}

func TestAnswersAreTheCallers(t *testing.T) {
	x := asked(t)
	does(t, x, grants("t", "k", 7, api.Matcher{Name: "a", Op: api.OpNot, Text: "z"}), api.OK)
	all := set(t, "{}")
	ask := func() ([]api.Series, []string, []string, []string, []byte, api.Grant) {
		g, _ := x.Who("t", []byte("k"))
		return x.Select("t", all, 0, 9), x.Names("t", all), x.Values("t", all, "a"), x.Tenants(), x.Save(), g
	}
	told := func(l []api.Series, names, values, tenants []string, saved []byte, g api.Grant) string {
		return fmt.Sprint(l, names, values, tenants, saved, g)
	}
	want := told(ask())
	for range 2 {
		l, names, values, tenants, saved, g := ask()
		other := fmt.Sprint(l[1:])
		scribble(l[0].Labels)
		scribble(l[0].Samples)
		if fmt.Sprint(l[1:]) != other {
			t.Error("P3: two lists of one answer share memory")
		}
		for _, s := range l {
			scribble(s.Labels)
			scribble(s.Samples)
		}
		scribble(l)
		scribble(names)
		scribble(values)
		scribble(tenants)
		scribble(saved)
		scribble(g.Policy)
		if got := told(ask()); got != want {
			t.Errorf("P3: %s; want %s", got, want)
		}
	}
}

// Questions change nothing, whoever is asked of.
func TestQuestionsChangeNothing(t *testing.T) {
	x := asked(t)
	was, saved := state(t, x), string(x.Save())
	for _, name := range []string{"t", "u", "v", "", "T"} {
		ask(t, x, name)
	}
	if string(x.Save()) != saved || state(t, x) != was {
		t.Error("Q3, Q5: what is asked changes something")
	}
}

func ask(t *testing.T, x *Tenants, name string) {
	all := set(t, "{}")
	x.Who(name, []byte("k"))
	x.Select(name, all, 0, 9)
	x.Count(name, all)
	x.Names(name, all)
	x.Values(name, all, "a")
	x.Account(name)
	x.Slots(name)
	x.Free()
	x.Entries()
	x.Size()
}
