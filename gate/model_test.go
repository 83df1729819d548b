package gate

import (
	"bytes"
	"fmt"
	"maps"
	"math"
	"math/rand"
	"slices"
	"testing"

	"turnkey/api"
)

func pick[T any](r *rand.Rand, l ...T) T {
	return l[r.Intn(len(l))]
}

// often is one of the first of two sorts, but for one time in so many.
func often[T any](r *rand.Rand, seldom int, usual T, l ...T) T {
	if r.Intn(seldom) == 0 {
		return pick(r, l...)
	}
	return usual
}

func someLabels(r *rand.Rand) []api.Label {
	if r.Intn(60) == 0 {
		return pick(r, nil, labels("a", ""), labels("b", "x", "a", "x"), labels("a", "x", "a", "y"), labels("1", "x"), labels("a", "\xff"))
	}
	var out []api.Label
	for _, name := range []string{"a", "b", "c"} {
		if r.Intn(3) > 0 {
			out = append(out, api.Label{Name: name, Value: pick(r, "x", "y", "é\"")})
		}
	}
	if len(out) == 0 {
		return labels("d", pick(r, "x", "0"))
	}
	return out
}

func someMatchers(r *rand.Rand) []api.Matcher {
	var out []api.Matcher
	for range pick(r, 0, 0, 0, 1, 1, 1, 2, 3, 8) {
		name := pick(r, "a", "b", "c", "d", "none")
		one := api.Matcher{Name: name, Op: 1 + r.Intn(2), Text: pick(r, "x", "y", "", "é\"")}
		if r.Intn(3) == 0 {
			one = api.Matcher{Name: name, Op: 3 + r.Intn(2), Text: pick(r, "x|y", ".*", ".", "[xy]?", "()", "(x|é).*")}
		}
		out = append(out, often(r, 60, one, api.Matcher{Name: "1", Op: 1}, api.Matcher{Name: name, Op: 3, Text: "("}, api.Matcher{Name: name, Op: 2, Text: "\xff"}))
	}
	return out
}

func someQuestion(r *rand.Rand) string {
	out := pick(r, "first", "last", "count", "least", "most", "distinct")
	out += pick(r, "", " by (a)", " by (b, c)", " by (none)")
	out += pick(r, " {}", " {}", ` {a="x"}`, ` {b!=""}`, ` {a=~"x|y", c=""}`, ` {none!="z"}`)
	out += pick(r, "", "", " from 3", " from -2 to 20", " to 9", " from 9 to 3", fmt.Sprint(" from ", int64(math.MinInt64)))
	out += pick(r, "", "", " limit 1", " limit 1000")
	return often(r, 15, out, "", "sum {}", "count {a}", "count", out+" limit 0", "count {1=\"x\"}", "count {} {}")
}

// pair is a door, what the words make of it, and a third one to which the changes alone are told.
type pair struct {
	g, follower *Gate
	p           plain
}

// someSamples rise, but for a few.
func (b *pair) someSamples(r *rand.Rand, name string, l []api.Label) []api.Sample {
	last := int64(r.Intn(10)) - 5
	for _, s := range b.p.tenants[name].series {
		if slices.Equal(s.Labels, l) && r.Intn(30) > 0 {
			last = s.Samples[len(s.Samples)-1].T
		}
	}
	var out []api.Sample
	for range pick(r, 1, 1, 1, 1, 2, 2, 3, 5, 9, 28) {
		last += pick[int64](r, 1, 1, 1, 1, 2, 60, 1<<30)
		if r.Intn(100) == 0 {
			last -= 5
		}
		out = append(out, api.Sample{T: last, V: pick(r, 0, 0, 1, r.Uint64())})
	}
	return out
}

func (b *pair) someRequest(r *rand.Rand) api.Request {
	q := api.Request{Tenant: often(r, 30, pick(r, "t", "t", "t", "u", "u", "u-"), "", "T", "t ", "0123456789abcdefg")}
	q.Token = []byte(often(r, 15, pick(r, "k0", "k1", "k2"), "", "op", "z"))
	q.Kind = pick(r, 1, 1, 1, 1, 1, 2, 2, 3, 3, 4, 5, 6, often(r, 9, 3, 7), 16, 18, 18, 18, 19, often(r, 9, 18, 17))
	if q.Kind >= 16 {
		q.Token = []byte(often(r, 15, "op", "", "k0", "oq"))
	}
	switch q.Kind {
	case api.KindWrite:
		for range pick(r, 1, 1, 1, 1, 2, 2, 3, 9) {
			l := someLabels(r)
			q.Writes = append(q.Writes, api.Series{Labels: l, Samples: b.someSamples(r, q.Tenant, l)})
		}
	case api.KindQuery:
		q.Matchers, q.From, q.To = someMatchers(r), pick[int64](r, math.MinInt64, -3, 0, 4), pick[int64](r, math.MaxInt64, -1, 4, 20)
	case api.KindAsk:
		q.Question = someQuestion(r)
	case api.KindCount, api.KindNames:
		q.Matchers = someMatchers(r)
	case api.KindValues:
		q.Matchers, q.Name = someMatchers(r), pick(r, "a", "b", "c", "d", "", "no name!")
	case api.KindMake:
		q.Series, q.Samples = pick(r, 0, 1, 2, 8, 30, 1000001), pick(r, 1, 5, 100, 200, 500, 1<<40-1)
	case api.KindGrant:
		q.Bears, q.Rights = []byte(pick(r, "k0", "k1", "k2", "", "op", fmt.Sprint("m", r.Intn(20)))), pick(r, 0, 1, 3, 7, 7, 15, 15, 15, 15, 16, 1<<40-1)
		q.Matchers = pick(r, nil, someMatchers(r))
	case api.KindRevoke:
		q.Bears = []byte(pick(r, "k0", "", "z", "m3"))
	}
	return q
}

// someBytes are a request, now and then one that is none, or another one.
func (b *pair) someBytes(t *testing.T, r *rand.Rand) []byte {
	raw := encoded(t, b.someRequest(r))
	switch r.Intn(40) {
	case 0:
		return raw[:r.Intn(len(raw))]
	case 1:
		return append(raw, byte(r.Intn(3)))
	case 2:
		raw[r.Intn(len(raw))] ^= byte(1 + r.Intn(255))
	}
	return raw
}

// do asks the door what the words are asked, and makes a change at all three, but for a few.
func (b *pair) do(t *testing.T, r *rand.Rand, raw []byte, window int64) []byte {
	t.Helper()
	answer, change, next := b.p.do(raw, window)
	for range 2 {
		a, c := b.g.Do(raw, window)
		if !bytes.Equal(a, answer) || !bytes.Equal(c, change) || (c == nil) != (change == nil) {
			t.Fatalf("T2: %q in the window %d: %x, %x; want %x, %x", raw, window, a, c, answer, change)
		}
	}
	if !bytes.Equal(b.g.Save(), b.p.save()) {
		t.Fatalf("T2: Do of %q changes something", raw)
	}
	if change == nil || r.Intn(10) == 0 {
		return answer
	}
	saved := next.save()
	if n := b.g.After(change); n != len(saved) {
		t.Fatalf("T3: After of %x: %d; want %d", change, n, len(saved))
	}
	if change[0] == api.ChangeRemove && len(saved) >= b.g.Size() {
		t.Fatalf("T3: behind the removal %x there are %d bytes of %d", change, len(saved), b.g.Size())
	}
	e, f := b.g.Apply(change), b.follower.Apply(change)
	if e != api.OK || f != api.OK || b.g.Size() != len(saved) || !bytes.Equal(b.g.Save(), saved) {
		t.Fatalf("T3: Apply of %x: %d, %d", change, e, f)
	}
	b.p = next
	return answer
}

func (b *pair) agree(t *testing.T, r *rand.Rand) {
	t.Helper()
	if b.g.Free() != b.p.free() || !slices.Equal(b.g.Tenants(), slices.Sorted(maps.Keys(b.p.tenants))) {
		t.Fatalf("T5: Free: %d; want %d; Tenants: %q", b.g.Free(), b.p.free(), b.g.Tenants())
	}
	for _, name := range []string{"t", "u", "u-", "T", ""} {
		if b.g.Slots(name) != b.p.used(name) {
			t.Fatalf("T5: Slots of %q: %d; want %d", name, b.g.Slots(name), b.p.used(name))
		}
	}
	raw := b.someBytes(t, r)
	one, c := b.g.Do(raw, 2)
	other, d := b.follower.Do(raw, 2)
	if !bytes.Equal(one, other) || !bytes.Equal(c, d) || !bytes.Equal(b.follower.Save(), b.p.save()) {
		t.Fatalf("T3: to %q the follower answers %x; want %x", raw, other, one)
	}
}

// begin lets there be somebody who may ask, and many tokens.
func (b *pair) begin(t *testing.T, r *rand.Rand) {
	for _, name := range []string{"t", "u"} {
		b.do(t, r, encoded(t, makes(name, 30, 500)), 0)
		b.do(t, r, encoded(t, grants(name, "k0", 15)), 0)
		b.do(t, r, encoded(t, grants(name, "k1", 7, someMatchers(r)...)), 0)
		for i := range 10 {
			b.do(t, r, encoded(t, grants(name, fmt.Sprint("m", i), 7)), 0)
		}
	}
}

func TestAgainstThePlainList(t *testing.T) {
	met := map[string]int{}
	for seed := range int64(40) {
		r := rand.New(rand.NewSource(seed))
		slots := pick(r, 1, 3, 10, 40, 200)
		follower, _ := New([]byte("op"), slots)
		b := &pair{made(t, slots), follower, newPlain("op", slots)}
		b.begin(t, r)
		for range 500 {
			window := often(r, 60, pick[int64](r, 0, 1, 1, 2, 2, 3), -1, lastWindow, lastWindow+1, math.MaxInt64)
			answer := b.do(t, r, b.someBytes(t, r), window)
			met[string(answer[:min(len(answer), 2)])]++
			if r.Intn(10) == 0 {
				b.agree(t, r)
			}
			if r.Intn(50) == 0 {
				b.reload(t, slots)
			}
		}
	}
	for _, e := range []api.Errno{api.ErrArg, api.ErrLabels, api.ErrMatch, api.ErrPool, api.ErrStale, api.ErrSeries, api.ErrQuota, api.ErrLimit, api.ErrToken, api.ErrRight, api.ErrMany, api.ErrKnown, api.ErrName, api.ErrTenant, api.ErrWire, api.ErrAsk} {
		if n := met[string(answerBytes(api.Response{Err: e}))]; n < 10 {
			t.Errorf("the error %d was met %d times", e, n)
		}
	}
	for kind := range 5 {
		if n := met[string([]byte{0, byte(kind)})]; n < 300 {
			t.Errorf("the answer %d was met %d times", kind, n)
		}
	}
}

// reload goes on with what was saved and loaded.
func (b *pair) reload(t *testing.T, slots int) {
	t.Helper()
	saved := b.g.Save()
	g, e := Load([]byte("op"), saved, slots)
	if e != api.OK || !bytes.Equal(g.Save(), saved) {
		t.Fatalf("T1: Load: %d", e)
	}
	b.g = g
}

// Whatever the bytes are, there is an answer, nothing is changed, and the words say the same.
func TestAnyBytes(t *testing.T) {
	p := newPlain("op", 8)
	for _, r := range []api.Request{makes("t", 3, 100), grants("t", "k", 15), writes("k", "t", a("x", 5, 9), a("y", 5))} {
		_, _, p = p.do(encoded(t, r), 0)
	}
	g, e := Load([]byte("op"), p.save(), 8)
	if e != api.OK {
		t.Fatalf("T1: Load: %d", e)
	}
	was := string(g.Save())
	for _, q := range []api.Request{writes("k", "t", a("x", 10), a("z", 1)), queries("k", "t", -9, 300, is("a", "x"), isNot("b", "y")), asks("k", "t", `most by (a) {a=~"x|y"} to 9`), counts("k", "t", is("a", "")), valuesOf("k", "t", "a", isNot("a", "")), by("k", api.KindRemove, "t"), makes("n", 5, 300), by("op", api.KindDrop, "t"), grants("t", "l", 7, is("a", "x")), revokes("t", "k")} {
		raw := encoded(t, q)
		for at := range len(raw) {
			for other := range 256 {
				b := bytes.Clone(raw)
				b[at] = byte(other)
				if bytes.ContainsAny(b, "$^{") && q.Kind != api.KindAsk {
					continue // not to be held against package regexp
				}
				answer, change := g.Do(b, 0)
				wantAnswer, wantChange, _ := p.do(b, 0)
				if !bytes.Equal(answer, wantAnswer) || !bytes.Equal(change, wantChange) {
					t.Fatalf("T2: %q: %x, %x; want %x, %x", b, answer, change, wantAnswer, wantChange)
				}
			}
		}
	}
	r := rand.New(rand.NewSource(3))
	for range 20000 {
		b := make([]byte, r.Intn(30))
		r.Read(b)
		if answer, _ := g.Do(b, int64(r.Uint64())); len(answer) < 2 {
			t.Fatalf("T2: %x is answered %x", b, answer)
		}
		if n := g.After(b); n < 1 {
			t.Fatalf("T3: After of %x: %d", b, n)
		}
	}
	if string(g.Save()) != was {
		t.Error("T2: Do changes something")
	}
}
