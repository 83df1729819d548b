package gate

import (
	"bytes"
	"encoding/hex"
	"errors"
	"fmt"
	"math"
	"slices"
	"strings"
	"testing"

	"turnkey/api"
	"turnkey/match"
	"turnkey/wire"
)

func made(t *testing.T, slots int) *Gate {
	t.Helper()
	g, e := New([]byte("op"), slots)
	if g == nil || e != api.OK {
		t.Fatalf("T1: New: %d", e)
	}
	return g
}

func encoded(t *testing.T, r api.Request) []byte {
	t.Helper()
	raw, e := wire.Encode(r)
	if e != api.OK {
		t.Fatalf("no request: %v", r)
	}
	return raw
}

// does is what a door answers; Do must change nothing, and say the same twice. What is to be kept is applied.
func does(t *testing.T, g *Gate, r api.Request, window int64) api.Response {
	t.Helper()
	raw, was := encoded(t, r), string(g.Save())
	answer, change := g.Do(raw, window)
	again, same := g.Do(raw, window)
	if !bytes.Equal(answer, again) || !bytes.Equal(change, same) || string(g.Save()) != was {
		t.Fatalf("T2: Do of %v changes something", r)
	}
	out, e := wire.Read(answer)
	if e != api.OK {
		t.Fatalf("T2: what is answered to %v is no answer: %x", r, answer)
	}
	keeps := out.Err == api.OK && out.Kind == api.AnswerDone
	if keeps != (change != nil) {
		t.Fatalf("T2: %v is answered %v, with the change %x", r, out, change)
	}
	if !keeps {
		return out
	}
	after := g.After(change)
	if e := g.Apply(change); e != api.OK || g.Size() != after || len(g.Save()) != after {
		t.Fatalf("T3: Apply of %x: %d; After: %d, Size: %d", change, e, after, g.Size())
	}
	return out
}

func answers(t *testing.T, g *Gate, r api.Request, want api.Errno) {
	t.Helper()
	if out := does(t, g, r, 0); out.Err != want {
		t.Errorf("T2: %v is answered %d; want %d", r, out.Err, want)
	}
}

func by(token string, kind int, name string) api.Request {
	return api.Request{Kind: kind, Tenant: name, Token: []byte(token)}
}

func makes(name string, series, samples int) api.Request {
	r := by("op", api.KindMake, name)
	r.Series, r.Samples = series, samples
	return r
}

func grants(name, token string, rights int, policy ...api.Matcher) api.Request {
	r := by("op", api.KindGrant, name)
	r.Bears, r.Rights, r.Matchers = []byte(token), rights, policy
	return r
}

func revokes(name, token string) api.Request {
	r := by("op", api.KindRevoke, name)
	r.Bears = []byte(token)
	return r
}

func writes(token, name string, l ...api.Series) api.Request {
	r := by(token, api.KindWrite, name)
	r.Writes = l
	return r
}

func counts(token, name string, l ...api.Matcher) api.Request {
	r := by(token, api.KindCount, name)
	r.Matchers = l
	return r
}

func queries(token, name string, from, to int64, l ...api.Matcher) api.Request {
	r := by(token, api.KindQuery, name)
	r.From, r.To, r.Matchers = from, to, l
	return r
}

func asks(token, name, question string) api.Request {
	r := by(token, api.KindAsk, name)
	r.Question = question
	return r
}

func valuesOf(token, name, of string, l ...api.Matcher) api.Request {
	r := by(token, api.KindValues, name)
	r.Name, r.Matchers = of, l
	return r
}

func is(name, text string) api.Matcher { return api.Matcher{Name: name, Op: api.OpIs, Text: text} }

func isNot(name, text string) api.Matcher { return api.Matcher{Name: name, Op: api.OpNot, Text: text} }

// labels makes labels of names and values in turn.
func labels(words ...string) []api.Label {
	var out []api.Label
	for i := 0; i < len(words); i += 2 {
		out = append(out, api.Label{Name: words[i], Value: words[i+1]})
	}
	return out
}

func with(l []api.Label, times ...int64) api.Series {
	s := api.Series{Labels: l}
	for _, time := range times {
		s.Samples = append(s.Samples, api.Sample{T: time, V: uint64(time)})
	}
	return s
}

func a(value string, times ...int64) api.Series {
	return with(labels("a", value), times...)
}

// tells fails unless Do answers these bytes, and this change, both in hex.
func tells(t *testing.T, g *Gate, r api.Request, answer, change string) {
	t.Helper()
	a, c := g.Do(encoded(t, r), 0)
	if want := strings.ReplaceAll(answer, " ", ""); hex.EncodeToString(a) != want {
		t.Errorf("T2: %v is answered %x; want %s", r, a, want)
	}
	if want := strings.ReplaceAll(change, " ", ""); hex.EncodeToString(c) != want {
		t.Errorf("T2: the change of %v is %x; want %s", r, c, want)
	}
}

func TestExamples(t *testing.T) {
	g := made(t, 2)
	tells(t, g, makes("t", 2, 100), "00 00", "01 0174 02 64")
	other := makes("t", 2, 100)
	other.Token = []byte("oq")
	tells(t, g, other, "a001", "")
	if e := g.Apply([]byte("\x01\x01t\x02\x64")); e != api.OK {
		t.Fatalf("T3: Apply: %d", e)
	}
	answers(t, g, grants("t", "k", 7, isNot("a", "z")), api.OK)
	tells(t, g, counts("k", "t"), "00 03 00", "")
	tells(t, g, counts("l", "t"), "a001", "")
	tells(t, g, counts("k", "u"), "a001", "")
	tells(t, g, writes("k", "t", a("z", 1)), "00 00", "05 0174 00 01 01 0161 017a 01 02 01")
	answers(t, g, writes("k", "t", a("z", 1)), api.OK)
	tells(t, g, counts("k", "t", is("a", "z")), "00 03 00", "")
	tells(t, g, by("k", api.KindRemove, "t"), "a101", "")
}

// Each kind with its answer and its change, byte by byte.
func TestEachKind(t *testing.T) {
	digestOfK := "8254c329a92850f6d539dd376f4816ee2764517da5e0235514af433164480d7a"
	g := made(t, 3)
	answers(t, g, makes("t", 300, 1000), api.OK)
	tells(t, g, grants("t", "k", 15, isNot("a", "z")), "00 00", "03 0174"+digestOfK+"0f 08 7b61213d227a227d")
	answers(t, g, grants("t", "k", 15, isNot("a", "z")), api.OK)
	tells(t, g, revokes("t", "k"), "00 00", "04 0174"+digestOfK)
	tells(t, g, by("op", api.KindDrop, "t"), "00 00", "02 0174")
	tells(t, g, by("k", api.KindRemove, "t"), "00 00", "02 0174")
	write := writes("k", "t", with(labels("a", "x", "b", "y"), -1, 200), a("z", 3), a("x", 7))
	tells(t, g, write, "00 00", "05 0174 00 03"+"02 0161 0178 0162 0179 02 01 ffffffffffffffffff01 9003 c801"+"01 0161 017a 01 06 03"+"01 0161 0178 01 0e 07")
	if out := does(t, g, write, 300); out.Err != api.OK {
		t.Fatalf("T2: Write: %d", out.Err)
	}
	if _, c := g.Do(encoded(t, writes("k", "t", a("x", 8))), 300); !bytes.HasPrefix(c, []byte("\x05\x01t\xac\x02\x01")) {
		t.Errorf("T2: a write in the window 300: %x", c)
	}
	tells(t, g, counts("k", "t"), "00 03 02", "")
	tells(t, g, by("k", api.KindNames, "t"), "00 04 02 0161 0162", "")
	tells(t, g, valuesOf("k", "t", "a"), "00 04 01 0178", "")
	tells(t, g, valuesOf("k", "t", "b", isNot("b", "")), "00 04 01 0179", "")
	tells(t, g, valuesOf("k", "t", "no name!"), "00 04 00", "")
	tells(t, g, queries("k", "t", 0, 100), "00 01 01 01 0161 0178 11 01 0000000000000007 0000000000000007", "")
	tells(t, g, queries("k", "t", 7, 7), "00 01 01 01 0161 0178 11 01 0000000000000007 0000000000000007", "")
	tells(t, g, queries("k", "t", 8, 100), "00 01 00", "")
	tells(t, g, asks("k", "t", "count {}"), "00 02 02 01 0161 0178 01 02 0161 0178 0162 0179 02", "")
	tells(t, g, asks("k", "t", "last by (b) {} to 9"), "00 02 02 00 07 01 0162 0179 ffffffffffffffffff01", "")
	tells(t, g, asks("k", "t", "count {} from 5 to 4"), "00 02 00", "")
}

func TestNewAndLoadRefuse(t *testing.T) {
	saved := made(t, 1).Save()
	if string(saved) != "\x00" {
		t.Errorf("T1: Save of no tenants: %x", saved)
	}
	for _, op := range []string{"", strings.Repeat("o", 65), strings.Repeat("o", 1000)} {
		for _, slots := range []int{1, 0} {
			g, e := New([]byte(op), slots)
			o, f := Load([]byte(op), saved, slots)
			p, h := Load([]byte(op), nil, slots)
			if g != nil || o != nil || p != nil || e != api.ErrArg || f != api.ErrArg || h != api.ErrArg {
				t.Errorf("T1: an operator's token of %d bytes, %d slots: %d, %d, %d", len(op), slots, e, f, h)
			}
		}
	}
	if g, e := New(nil, 1); g != nil || e != api.ErrArg {
		t.Errorf("T1: New of nil: %d", e)
	}
	for _, slots := range []int{math.MinInt, -1, 0, api.MaxSlots + 1, math.MaxInt} {
		g, e := New([]byte("op"), slots)
		o, f := Load([]byte("op"), saved, slots)
		p, h := Load([]byte("op"), []byte("?"), slots)
		if g != nil || o != nil || p != nil || e != api.ErrArg || f != api.ErrArg || h != api.ErrArg {
			t.Errorf("T1: %d slots: %d, %d, %d", slots, e, f, h)
		}
	}
	for _, b := range []string{"", "\x01", "\x00\x00", "\x80\x00", "?"} {
		if g, e := Load([]byte("op"), []byte(b), 1); g != nil || e != api.ErrState {
			t.Errorf("T1: Load of %q: %d", b, e)
		}
	}
	for _, op := range []string{"o", "\x00", strings.Repeat("\xff", 64)} {
		for _, slots := range []int{1, api.MaxSlots} {
			g, e := New([]byte(op), slots)
			o, f := Load([]byte(op), saved, slots)
			if e != api.OK || f != api.OK || g.Free() != slots || o.Free() != slots {
				t.Fatalf("T1: an operator's token of %d bytes, %d slots: %d, %d", len(op), slots, e, f)
			}
			r := makes("t", 1, 1)
			r.Token = []byte(op)
			answers(t, g, r, api.OK)
			answers(t, o, r, api.OK)
		}
	}
}

// filled is a door with two tenants, t and u. Of t the token k may all, w write alone, e ask and count where a is x; of u k and v may all.
func filled(t *testing.T) *Gate {
	t.Helper()
	g := made(t, 8)
	for _, r := range []api.Request{
		makes("t", 3, 100), makes("u", 3, 100),
		grants("t", "k", 15), grants("t", "w", 1), grants("t", "e", 6, is("a", "x")), grants("u", "k", 15), grants("u", "v", 15),
		writes("k", "t", a("x", 5, 9), a("y", 5), with(labels("a", "x", "b", "1"), 7)),
		writes("k", "u", with(labels("b", "2"), 7), a("u", 1)),
	} {
		answers(t, g, r, api.OK)
	}
	return g
}

func TestSaveAndLoad(t *testing.T) {
	g := filled(t)
	saved := g.Save()
	if bytes.Contains(saved, []byte("op")) || len(saved) != g.Size() {
		t.Errorf("T1, T3: Save: %x; Size: %d", saved, g.Size())
	}
	o, e := Load([]byte("oq"), saved, 5)
	if e != api.OK || !bytes.Equal(o.Save(), saved) || o.Free() != 0 || o.Slots("t") != 3 || o.Slots("u") != 2 || !slices.Equal(o.Tenants(), []string{"t", "u"}) {
		t.Fatalf("T1, T5: Load: %d", e)
	}
	if _, e := Load([]byte("oq"), saved, 4); e != api.ErrState {
		t.Errorf("T1: Load with too few slots: %d", e)
	}
	if g.Free() != 3 || g.Slots("t") != 3 || g.Slots("nobody") != 0 || g.Slots("T?") != 0 {
		t.Errorf("T5: %d are free; of t: %d", g.Free(), g.Slots("t"))
	}
	for _, r := range []api.Request{counts("e", "t"), queries("k", "u", -9, 9), by("k", api.KindNames, "t"), asks("e", "t", "last {}"), counts("v", "t"), writes("w", "t", a("x", 10))} {
		one, _ := g.Do(encoded(t, r), 0)
		other, _ := o.Do(encoded(t, r), 0)
		if !bytes.Equal(one, other) {
			t.Errorf("T1: %v is answered %x, and behind Load %x", r, one, other)
		}
	}
	answers(t, o, by("op", api.KindDrop, "t"), api.ErrToken)
	answers(t, o, by("oq", api.KindDrop, "t"), api.OK)
	if o.Free() != 3 || g.Free() != 3 || !slices.Equal(o.Tenants(), []string{"u"}) || len(g.Tenants()) != 2 {
		t.Errorf("P4: one door changes another one")
	}
}

// The first that refuses is told, whatever would refuse behind it.
func TestOrder(t *testing.T) {
	g := filled(t)
	broken := api.Matcher{Name: "1", Op: api.OpIs}
	noRight := asks("w", "t", "sum {}")
	operatorsByOthers := grants("T?", "", 99, broken)
	operatorsByOthers.Token = []byte("k")
	wrongLabels := writes("w", "t", a("", 1), a("x", 1))
	for i, c := range []struct {
		r    api.Request
		want api.Errno
	}{
		{operatorsByOthers, api.ErrToken}, {by("", api.KindDrop, "t"), api.ErrToken}, {by("k", api.KindDrop, "t"), api.ErrToken}, {by("o", api.KindMake, "t"), api.ErrToken}, {by("opp", api.KindRevoke, "t"), api.ErrToken},
		{counts("op", "t"), api.ErrToken}, {counts("", "t"), api.ErrToken}, {counts("z", "t", broken), api.ErrToken}, {counts("v", "t"), api.ErrToken}, {counts("k", "T?", broken), api.ErrToken}, {counts("k", ""), api.ErrToken}, {by("op", api.KindRemove, "t"), api.ErrToken},
		{queries("z", "t", 5, 4), api.ErrToken}, {asks("z", "t", "sum {}"), api.ErrToken}, {writes("z", "t", a("", 1)), api.ErrToken},
		{counts("w", "t", broken), api.ErrRight}, {queries("w", "t", 5, 4, broken), api.ErrRight}, {noRight, api.ErrRight}, {writes("e", "t", a("", 1)), api.ErrRight}, {by("w", api.KindRemove, "t"), api.ErrRight}, {by("w", api.KindNames, "t"), api.ErrRight}, {valuesOf("w", "t", "a"), api.ErrRight},
		{queries("k", "t", 5, 4, broken), api.ErrMatch}, {queries("k", "t", 5, 4), api.ErrArg}, {queries("k", "t", math.MaxInt64, math.MinInt64), api.ErrArg}, {queries("k", "t", 4, 4), api.OK}, {queries("k", "t", math.MinInt64, math.MaxInt64), api.OK},
		{counts("k", "t", broken), api.ErrMatch}, {valuesOf("k", "t", "a", broken), api.ErrMatch}, {counts("e", "t", is("a", "x"), broken), api.ErrMatch}, {counts("k", "t", api.Matcher{Name: "a", Op: api.OpLike, Text: "("}), api.ErrMatch},
		{asks("k", "t", "sum {}"), api.ErrAsk}, {asks("k", "t", ""), api.ErrAsk}, {asks("k", "t", "count {a}"), api.ErrMatch}, {asks("k", "t", "count {1=\"x\"} from"), api.ErrMatch}, {asks("e", "t", "count {} limit 0"), api.ErrAsk},
		{wrongLabels, api.ErrLabels}, {writes("w", "t", with(labels("b", "1", "a", "x"), 9)), api.ErrLabels}, {writes("w", "t", with(nil, 9)), api.ErrLabels}, {writes("w", "t", a("x", 9), a("v", 1)), api.ErrStale}, {writes("w", "t", a("v", 1)), api.ErrSeries}, {writes("w", "t", run("x", 10, 97)), api.ErrQuota}, {writes("w", "t", run("x", 10, 97), a("v", 1)), api.ErrSeries},
		{makes("T?", 0, 0), api.ErrName}, {makes("", 1, 1), api.ErrName}, {makes("t", 0, 1), api.ErrLimit}, {makes("n", 1, 1000001), api.ErrLimit}, {makes("n", 1<<40-1, 1), api.ErrLimit}, {makes("t", 1, 1), api.ErrKnown},
		{by("op", api.KindDrop, "T?"), api.ErrName}, {by("op", api.KindDrop, "n"), api.ErrTenant},
		{grants("T?", "", 0, broken), api.ErrArg}, {grants("T?", "k", 0, broken), api.ErrName}, {grants("n", "k", 0, broken), api.ErrTenant}, {grants("t", "k", 0, broken), api.ErrArg}, {grants("t", "k", 16, broken), api.ErrArg}, {grants("t", "k", 15, broken), api.ErrMatch}, {grants("t", "k", 15), api.ErrKnown},
		{revokes("T?", ""), api.ErrArg}, {revokes("T?", "z"), api.ErrName}, {revokes("n", "z"), api.ErrTenant}, {revokes("t", "z"), api.ErrToken}, {revokes("t", "v"), api.ErrToken}, {revokes("t", "op"), api.ErrToken},
	} {
		if out := does(t, g, c.r, 0); out.Err != c.want {
			t.Errorf("T2: row %d, %v: %d; want %d", i, c.r, out.Err, c.want)
		}
	}
	for _, window := range []int64{-1, lastWindow + 1, math.MinInt64, math.MaxInt64} {
		if out := does(t, g, wrongLabels, window); out.Err != api.ErrArg {
			t.Errorf("T2: a write in the window %d: %d", window, out.Err)
		}
		// Nothing but a write has to do with it.
		if out := does(t, g, counts("k", "t"), window); out.Err != api.OK || out.Number != 3 {
			t.Errorf("T2: a count in the window %d: %v", window, out)
		}
	}
	for _, window := range []int64{0, 1, lastWindow} {
		if out := does(t, g, writes("w", "t", a("x", 10+window)), window); out.Err != api.OK {
			t.Errorf("T2: a write in the window %d: %d", window, out.Err)
		}
	}
}

// run is so many samples, from a time on, that take few bits.
func run(value string, from int64, count int) api.Series {
	s := a(value)
	for i := range count {
		s.Samples = append(s.Samples, api.Sample{T: from + int64(i), V: 7})
	}
	return s
}

func TestNoRequest(t *testing.T) {
	g := filled(t)
	was := string(g.Save())
	right := encoded(t, makes("n", 1, 1))
	for _, raw := range [][]byte{nil, {}, {0}, {4}, {8, 1, 't', 1, 'k'}, {20, 1, 't', 2, 'o', 'p'}, {255}, right[:len(right)-1], append(bytes.Clone(right), 0), make([]byte, 70000), []byte("\x07\x01t\x81\x00k")} {
		for _, window := range []int64{0, -1, math.MaxInt64} {
			if answer, change := g.Do(raw, window); string(answer) != "\xb4\x01" || change != nil || string(g.Save()) != was {
				t.Errorf("T2: %x: %x, %x", raw[:min(len(raw), 20)], answer, change)
			}
		}
	}
}

// Of each kind one right alone is asked.
func TestRights(t *testing.T) {
	g := made(t, 8)
	answers(t, g, makes("t", 100, 100), api.OK)
	for rights := 1; rights <= 15; rights++ {
		token := fmt.Sprint("k", rights)
		answers(t, g, grants("t", token, rights), api.OK)
		for want, l := range map[int][]api.Request{
			api.MayWrite:  {writes(token, "t", a("x", 1))},
			api.MayAsk:    {queries(token, "t", 0, 1), asks(token, "t", "count {}")},
			api.MayCount:  {counts(token, "t"), by(token, api.KindNames, "t"), valuesOf(token, "t", "a")},
			api.MayRemove: {by(token, api.KindRemove, "t")},
		} {
			for _, r := range l {
				answer, change := g.Do(encoded(t, r), 0)
				may := rights&want != 0
				if refused := string(answer) == "\xa1\x01"; refused == may || refused && change != nil || may && answer[0] != 0 {
					t.Errorf("T2: with rights %d %v is answered %x", rights, r, answer)
				}
			}
		}
		answers(t, g, revokes("t", token), api.OK)
	}
}

// Why somebody is nobody is not told.
func TestNobodyIsTheSame(t *testing.T) {
	g := filled(t)
	answers(t, g, grants("t", "gone", 15), api.OK)
	answers(t, g, revokes("t", "gone"), api.OK)
	answers(t, g, makes("past", 1, 1), api.OK)
	answers(t, g, grants("past", "k", 15), api.OK)
	answers(t, g, by("k", api.KindRemove, "past"), api.OK)
	for kind := api.KindWrite; kind <= api.KindRemove; kind++ {
		for _, who := range [][2]string{{"k", "nobody"}, {"k", "T?"}, {"k", ""}, {"k", "t\x00"}, {"z", "t"}, {"", "t"}, {"v", "t"}, {"gone", "t"}, {"op", "t"}, {"k", "past"}, {"k", strings.Repeat("t", 64)}, {strings.Repeat("k", 64), "t"}} {
			r := by(who[0], kind, who[1])
			if kind == api.KindWrite {
				r.Writes = []api.Series{a("x", 10)}
			}
			tells(t, g, r, "a001", "")
		}
	}
}

// The operator's token may be granted, and is a tenant's then, too; a tenant's token is never the operator's.
func TestOneTokenOfTwo(t *testing.T) {
	g := filled(t)
	answers(t, g, grants("t", "op", 4, is("a", "y")), api.OK)
	if out := does(t, g, counts("op", "t"), 0); out.Number != 1 {
		t.Errorf("T2: Count by op: %v", out)
	}
	answers(t, g, queries("op", "t", 0, 9), api.ErrRight)
	answers(t, g, counts("op", "u"), api.ErrToken)
	answers(t, g, revokes("t", "op"), api.OK)
	answers(t, g, makes("n", 1, 1), api.OK)
}

func TestManyTokens(t *testing.T) {
	g := made(t, 1)
	answers(t, g, makes("t", 1, 1), api.OK)
	for i := range 16 {
		answers(t, g, grants("t", fmt.Sprint("k", i), 1), api.OK)
	}
	answers(t, g, grants("t", "more", 1), api.ErrMany)
	answers(t, g, grants("t", "k3", 1), api.ErrKnown)
	answers(t, g, grants("t", strings.Repeat("z", 64), 1), api.ErrMany)
	answers(t, g, revokes("t", "k3"), api.OK)
	answers(t, g, grants("t", strings.Repeat("z", 64), 8), api.OK)
	answers(t, g, by(strings.Repeat("z", 64), api.KindRemove, "t"), api.OK)
	answers(t, g, by(strings.Repeat("z", 64), api.KindRemove, "t"), api.ErrToken)
}

func TestPoolIsFull(t *testing.T) {
	g := made(t, 1)
	for _, name := range []string{"t", "u"} {
		answers(t, g, makes(name, 5, 100), api.OK)
		answers(t, g, grants(name, "k", 15), api.OK)
	}
	answers(t, g, writes("k", "t", a("x", 1)), api.OK)
	answers(t, g, writes("k", "u", a("x", 1)), api.ErrPool)
	answers(t, g, by("op", api.KindDrop, "t"), api.OK)
	answers(t, g, writes("k", "u", a("x", 1)), api.OK)
}

func TestGone(t *testing.T) {
	g := filled(t)
	was := string(g.Save())
	answers(t, g, makes("n", 5, 5), api.OK)
	answers(t, g, grants("n", "k", 15, is("a", "x")), api.OK)
	answers(t, g, writes("k", "n", a("x", 100)), api.OK)
	answers(t, g, by("k", api.KindRemove, "n"), api.OK)
	if string(g.Save()) != was || g.Free() != 3 || g.Slots("n") != 0 {
		t.Errorf("T2: behind Remove something is left")
	}
	answers(t, g, makes("n", 5, 5), api.OK)
	answers(t, g, counts("k", "n"), api.ErrToken)
	answers(t, g, grants("n", "k", 15), api.OK)
	answers(t, g, writes("k", "n", a("x", 1)), api.OK)
}

// A window that has gone never comes again.
func TestWindows(t *testing.T) {
	g := made(t, 2)
	answers(t, g, makes("t", 1, 2), api.OK)
	answers(t, g, grants("t", "k", 15), api.OK)
	for i, c := range []struct {
		window int64
		want   api.Errno
	}{{0, api.OK}, {0, api.OK}, {0, api.ErrQuota}, {1, api.OK}, {0, api.OK}, {0, api.ErrQuota}, {1, api.ErrQuota}, {2, api.OK}} {
		if out := does(t, g, writes("k", "t", a("x", int64(i))), c.window); out.Err != c.want {
			t.Errorf("T2: write %d, in the window %d: %d; want %d", i, c.window, out.Err, c.want)
		}
	}
}

func TestApplyAndAfterRefuse(t *testing.T) {
	g := filled(t)
	was, size := string(g.Save()), g.Size()
	tooGreat := "\xff\xff\xff\xff\xff\xff\xff\xff\x7f"
	for b, want := range map[string]api.Errno{
		"": api.ErrWire, "\x01": api.ErrWire, "\x00\x01t": api.ErrWire, "\x06\x01t": api.ErrWire, "\x02\x01t\x00": api.ErrWire, "\x02\x02t": api.ErrWire, "\x02\x81\x00t": api.ErrWire,
		"\x02\x01n": api.ErrTenant, "\x02\x00": api.ErrName, "\x02\x01T": api.ErrName, "\x01\x01t\x01\x01": api.ErrKnown, "\x01\x01n\x00\x01": api.ErrLimit, "\x01\x01n\x01" + tooGreat: api.ErrLimit,
		"\x05\x01t\x00\x00": api.ErrArg, "\x05\x01t\x00\x01\x00\x00": api.ErrArg, "\x05\x01t\x00\x01\x00\x01\x00\x00": api.ErrLabels, "\x05\x01t" + tooGreat + "\x01\x01\x01a\x01x\x01\x80\x01\x00": api.ErrArg, "\x05\x01t\x00\x01\x01\x01a\x01x\x01\x12\x00": api.ErrStale,
		"\x04\x01t" + strings.Repeat("\x00", 32): api.ErrToken, "\x03\x01t" + strings.Repeat("\x00", 32) + "\x00\x02{}": api.ErrArg, "\x03\x01t" + strings.Repeat("\x00", 32) + tooGreat + "\x02{}": api.ErrArg,
	} {
		if n := g.After([]byte(b)); n != size {
			t.Errorf("T3: After of %q: %d; want %d", b, n, size)
		}
		if e := g.Apply([]byte(b)); e != want || string(g.Save()) != was || g.Size() != size {
			t.Errorf("T3: Apply of %q: %d; want %d", b, e, want)
		}
	}
	for _, name := range []string{"t", "u"} {
		if n := g.After([]byte("\x02\x01" + name)); n >= g.Size() {
			t.Errorf("T3: behind the removal of %s there are %d bytes of %d", name, n, g.Size())
		}
		if e := g.Apply([]byte("\x02\x01" + name)); e != api.OK {
			t.Errorf("T3: the removal of %s: %d", name, e)
		}
	}
	if string(g.Save()) != "\x00" || g.Size() != 1 || g.Free() != 8 || len(g.Tenants()) != 0 {
		t.Errorf("T3: of no tenants there is %x", g.Save())
	}
}

// What is told deep below comes up as a number: one that came alone, and one of a fault.
func TestRefusalsAreWrapped(t *testing.T) {
	var fault *api.Fault
	_, err := match.Parse("{a}")
	low := refused(err)
	if !errors.Is(low, api.ErrMatch) || errors.Is(low, api.ErrAsk) || !errors.As(low, &fault) || fault.At != 2 {
		t.Errorf("the fault %v is wrapped as %v", err, low)
	}
	var number api.Errno
	if !errors.As(refused(api.ErrRight), &number) || number != api.ErrRight || refused(api.ErrRight).Error() != "refused: turnkey: error 161" {
		t.Errorf("ErrRight is wrapped as %v", refused(api.ErrRight))
	}
	if refused(nil) != nil || refused(api.OK) != nil {
		t.Error("no error is wrapped")
	}
}
