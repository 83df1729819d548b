package gate

import (
	"bytes"
	"fmt"
	"math"
	"math/rand"
	"slices"
	"strings"
	"testing"

	"turnkey/api"
	"turnkey/label"
	"turnkey/match"
	"turnkey/wire"
)

func printed(l []api.Series) string {
	var out []string
	for _, s := range l {
		out = append(out, fmt.Sprint(label.Print(s.Labels), s.Samples))
	}
	return strings.Join(out, " ")
}

// The policy stands beside what was asked in every kind of question.
func TestPolicyIsInEachQuestion(t *testing.T) {
	g := made(t, 20)
	for _, r := range []api.Request{
		makes("t", 9, 100), grants("t", "k", 15), grants("t", "e", 7, isNot("a", "y")), grants("t", "two", 6, isNot("a", "y"), is("b", "")),
		grants("t", "like", 6, api.Matcher{Name: "b", Op: api.OpLike, Text: "1|2"}), grants("t", "unlike", 6, api.Matcher{Name: "a", Op: api.OpUnlike, Text: ".*"}), grants("t", "none", 6, is("a", "x"), is("a", "y")),
		writes("k", "t", a("x", 1), with(labels("a", "y", "b", "1"), 1), with(labels("b", "2"), 1)),
	} {
		answers(t, g, r, api.OK)
	}
	for _, c := range []struct{ token, count, names, values, query, rows string }{
		{"k", "3", "[a b]", "[1 2]", `{a="x"}[{1 1}] {a="y", b="1"}[{1 1}] {b="2"}[{1 1}]`, "[{[] 1} {[{a x}] 1} {[{a y}] 1}]"},
		{"e", "2", "[a b]", "[2]", `{a="x"}[{1 1}] {b="2"}[{1 1}]`, "[{[] 1} {[{a x}] 1}]"},
		{"two", "1", "[a]", "[]", `{a="x"}[{1 1}]`, "[{[{a x}] 1}]"},
		{"like", "2", "[a b]", "[1 2]", `{a="y", b="1"}[{1 1}] {b="2"}[{1 1}]`, "[{[] 1} {[{a y}] 1}]"},
		{"unlike", "0", "[]", "[]", "", "[]"},
		{"none", "0", "[]", "[]", "", "[]"},
	} {
		for _, pair := range [][2]string{
			{c.count, fmt.Sprint(does(t, g, counts(c.token, "t"), 0).Number)},
			{c.names, fmt.Sprint(does(t, g, by(c.token, api.KindNames, "t"), 0).Texts)},
			{c.values, fmt.Sprint(does(t, g, valuesOf(c.token, "t", "b"), 0).Texts)},
			{c.query, printed(does(t, g, queries(c.token, "t", 0, 9), 0).Series)},
			{c.rows, fmt.Sprint(does(t, g, asks(c.token, "t", "count by (a) {}"), 0).Rows)},
		} {
			if pair[0] != pair[1] {
				t.Errorf("P10: %s is told %s; want %s", c.token, pair[1], pair[0])
			}
		}
	}
	for _, r := range []api.Request{counts("e", "t", is("a", "y")), counts("e", "t", is("b", "1"))} {
		if n := does(t, g, r, 0).Number; n != 0 {
			t.Errorf("P10: what the policy hides is counted: %d", n)
		}
	}
	answers(t, g, writes("e", "t", a("y", 1)), api.OK)
	if n := does(t, g, counts("e", "t"), 0).Number; n != 2 {
		t.Errorf("T2: what e wrote, and may not see, is counted: %d", n)
	}
	if n := does(t, g, counts("k", "t"), 0).Number; n != 4 {
		t.Errorf("T2: Count by k: %d", n)
	}
}

// Eight matchers of a policy, and eight that were asked.
func TestSixteenMatchers(t *testing.T) {
	g := made(t, 2)
	var policy, asked []api.Matcher
	for i := range 8 {
		policy = append(policy, isNot("a", fmt.Sprint("p", i)))
		asked = append(asked, isNot("a", fmt.Sprint("q", i)))
	}
	for _, r := range []api.Request{makes("t", 99, 99), grants("t", "k", 15, policy...), writes("k", "t", a("x", 1), a("p7", 1))} {
		if out := does(t, g, r, 0); out.Err != api.OK {
			t.Fatalf("T2: %v: %d", r, out.Err)
		}
	}
	for _, c := range []struct {
		l    []api.Matcher
		want int
	}{{nil, 1}, {asked, 1}, {policy, 1}, {append(asked[1:8:8], isNot("a", "x")), 0}} {
		if out := does(t, g, counts("k", "t", c.l...), 0); out.Err != api.OK || out.Number != c.want {
			t.Errorf("T2: Count of %v: %v", c.l, out)
		}
	}
	text := match.Print(asked)
	if out := does(t, g, asks("k", "t", "count "+text), 0); fmt.Sprint(out.Rows) != "[{[{a x}] 1}]" {
		t.Errorf("T2: Ask: %v", out)
	}
}

// someWorld is series of random labels and samples.
func someWorld(r *rand.Rand) []api.Series {
	var out []api.Series
	for range 25 {
		l := someLabels(r)
		if label.Right(l) != api.OK || slices.ContainsFunc(out, func(s api.Series) bool { return label.Cmp(s.Labels, l) == 0 }) {
			continue
		}
		s := api.Series{Labels: l}
		time := int64(r.Intn(20) - 10)
		for range 1 + r.Intn(30) {
			time += int64(1 + r.Intn(9))
			s.Samples = append(s.Samples, api.Sample{T: time, V: uint64(r.Intn(5))})
		}
		out = append(out, s)
	}
	return out
}

// P10, asked of what stands in the answers alone.
func TestSeen(t *testing.T) {
	for seed := range int64(40) {
		r := rand.New(rand.NewSource(seed))
		world := someWorld(r)
		policy := someMatchers(r)
		if _, e := match.New(policy); e != api.OK {
			continue
		}
		g := made(t, 200)
		answers(t, g, makes("t", 100, 10000), api.OK)
		answers(t, g, grants("t", "k", 15, policy...), api.OK)
		answers(t, g, grants("t", "w", 1), api.OK)
		for _, s := range world {
			answers(t, g, writes("w", "t", s), api.OK)
		}
		for range 40 {
			asked := someMatchers(r)
			if _, e := match.New(asked); e != api.OK {
				continue
			}
			from, to := int64(r.Intn(100)-20), int64(r.Intn(100)+80)
			told := does(t, g, queries("k", "t", from, to, asked...), 0).Series
			rows := does(t, g, asks("k", "t", fmt.Sprint("count ", match.Print(asked), " from ", from, " to ", to)), 0).Rows
			number := does(t, g, counts("k", "t", asked...), 0).Number
			for _, s := range world {
				in := func(x api.Series) bool { return label.Cmp(x.Labels, s.Labels) == 0 }
				meant := holds(policy, s.Labels) && holds(asked, s.Labels)
				some := during([]api.Series{s}, from, to)
				if meant {
					number--
				}
				at := slices.IndexFunc(told, in)
				if (at >= 0) != (meant && len(some) > 0) || at >= 0 && !slices.Equal(told[at].Samples, some[0].Samples) {
					t.Fatalf("P10: policy %v, asked %v, %v: %v is told %v", policy, asked, [2]int64{from, to}, s, told)
				}
				row := slices.IndexFunc(rows, func(x api.Row) bool { return label.Cmp(x.Labels, s.Labels) == 0 })
				if (row >= 0) != (at >= 0) || row >= 0 && rows[row].N != uint64(len(some[0].Samples)) {
					t.Fatalf("P10: policy %v, asked %v: of %v there is a row in %v", policy, asked, s, rows)
				}
			}
			if number != 0 || len(rows) != len(told) {
				t.Fatalf("P10: policy %v, asked %v: Count is %d off; %d rows, %d series", policy, asked, number, len(rows), len(told))
			}
		}
	}
}

// worldDoor is a door with these series, which come in some order, cut in some way, between some other things.
func worldDoor(t *testing.T, r *rand.Rand, world []api.Series, policy []api.Matcher) *Gate {
	operator := []byte(pick(r, "op", "other"))
	g, e := New(operator, 1000)
	if e != api.OK {
		t.Fatalf("T1: New: %d", e)
	}
	send := func(q api.Request) {
		if q.Kind >= api.KindMake {
			q.Token = operator
		}
		does(t, g, q, int64(r.Intn(5)))
	}
	send(makes("t", 100+r.Intn(900), 10000+r.Intn(90000)))
	send(makes("u", 50, 500))
	send(grants("u", "e", 15))
	send(grants("t", "w", 1))
	send(grants("t", "e", 15, policy...))
	rest := make([]api.Series, len(world))
	for i, at := range r.Perm(len(world)) {
		rest[i] = api.Series{Labels: world[at].Labels, Samples: slices.Clone(world[at].Samples)}
	}
	for len(rest) > 0 {
		at := r.Intn(len(rest))
		count := 1 + r.Intn(len(rest[at].Samples))
		send(writes("w", "t", api.Series{Labels: rest[at].Labels, Samples: rest[at].Samples[:count]}))
		if rest[at].Samples = rest[at].Samples[count:]; len(rest[at].Samples) == 0 {
			rest = slices.Delete(rest, at, at+1)
		}
		send(writes("e", "u", with(labels("a", pick(r, "x", "y", "other")), int64(r.Intn(9)))))
		send(grants("t", fmt.Sprint("m", r.Intn(30)), 1+r.Intn(15)))
	}
	return g
}

// hidden leaves the series that hold the policy, and adds others that do not.
func hidden(r *rand.Rand, seen []api.Series, policy []api.Matcher) []api.Series {
	out := slices.Clone(seen)
	for _, s := range someWorld(r) {
		if !holds(policy, s.Labels) {
			out = append(out, s)
		}
	}
	return out
}

func TestConfined(t *testing.T) {
	unlike := 0
	for seed := range int64(40) {
		r := rand.New(rand.NewSource(seed))
		policy := someMatchers(r)
		if _, e := match.New(policy); e != api.OK || len(policy) == 0 {
			continue
		}
		seen := slices.DeleteFunc(someWorld(r), func(s api.Series) bool { return !holds(policy, s.Labels) })
		one, other := worldDoor(t, r, hidden(r, seen, policy), policy), worldDoor(t, r, hidden(r, seen, policy), policy)
		if !bytes.Equal(one.Save(), other.Save()) {
			unlike++
		}
		for range 200 {
			b := &pair{}
			q := b.someRequest(r)
			if q.Kind < api.KindQuery || q.Kind > api.KindValues {
				continue
			}
			q.Tenant, q.Token = "t", []byte("e")
			first, c := one.Do(encoded(t, q), 0)
			second, d := other.Do(encoded(t, q), 1)
			if !bytes.Equal(first, second) || c != nil || d != nil {
				t.Fatalf("Confined: by the policy %v %v is answered %x and %x", policy, q, first, second)
			}
		}
	}
	if unlike < 15 {
		t.Errorf("%d pairs of doors were unlike", unlike)
	}
}

// manyValues is a door with so many series that their values of a are told in MaxAnswer bytes to who bears fits, and in one more to who bears over; who bears k sees all of them.
func manyValues(t *testing.T) *Gate {
	g, e := New([]byte("op"), 20000)
	if e != api.OK {
		t.Fatalf("T1: New: %d", e)
	}
	for _, r := range []api.Request{makes("t", 20000, 20000), makes("u", 9, 9), grants("t", "k", 15), grants("t", "fits", 15, isNot("b", "over")), grants("t", "over", 15, isNot("b", "fits"))} {
		answers(t, g, r, api.OK)
	}
	// Two bytes ahead, two of the count, and 65 for each of these values but one: 2 + 2 + 16131 * 65 + 57 is 1048576.
	l := []api.Series{with(labels("a", strings.Repeat("z", 56), "b", "fits"), 1), with(labels("a", strings.Repeat("z", 57), "b", "over"), 1)}
	for i := range 16131 {
		l = append(l, a(fmt.Sprintf("%064d", i), 1))
	}
	for batch := range slices.Chunk(l, 64) {
		if e := g.Apply(changeBytes(api.Change{Kind: api.ChangeWrite, Tenant: "t", Writes: batch})); e != api.OK {
			t.Fatalf("T3: Apply: %d", e)
		}
	}
	return g
}

func TestBig(t *testing.T) {
	g := manyValues(t)
	for _, c := range []struct {
		r    api.Request
		size int // of the answer; 0: it is too long
	}{
		{valuesOf("fits", "t", "a"), api.MaxAnswer},
		{valuesOf("over", "t", "a"), 0},
		{valuesOf("k", "t", "a"), 0},
		{valuesOf("k", "t", "a", isNot("b", "over")), api.MaxAnswer},
		{valuesOf("k", "t", "b"), 13},
		{queries("k", "t", 0, 1), 0},
		{queries("k", "t", 2, math.MaxInt64), 3},
		{queries("fits", "t", 0, 1, is("b", "fits")), 3 + 1 + 2 + 57 + 2 + 5 + 18},
		{asks("k", "t", "count {}"), 0},
		{asks("k", "t", "count {} limit 1000"), 4 + 1000*69},
		{asks("k", "t", "count by (b) {}"), 3 + 2*9 + 3},
		{asks("fits", "t", "count by (b) {}"), 3 + 9 + 3},
		{counts("k", "t"), 2 + 2},
		{by("k", api.KindNames, "t"), 3 + 2 + 2},
	} {
		answer, change := g.Do(encoded(t, c.r), 0)
		if c.size == 0 && string(answer) != "\xb5\x01" || c.size > 0 && (len(answer) != c.size || answer[0] != 0) || change != nil {
			t.Errorf("T2: %v is answered by %d bytes; want %d", c.r, len(answer), c.size)
		}
		if _, e := wire.Read(answer); e != api.OK {
			t.Errorf("T2: what is answered to %v is no answer", c.r)
		}
	}
	// That an answer is too long is asked at last.
	answers(t, g, queries("k", "t", 1, 0), api.ErrArg)
	answers(t, g, queries("k", "t", 0, 1, is("1", "x")), api.ErrMatch)
	answers(t, g, by("k", api.KindRemove, "t"), api.OK)
	if g.Size() != 9 || g.Free() != 20000 {
		t.Errorf("T2, T3: behind Remove: %x", g.Save())
	}
}
