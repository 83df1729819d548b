package token

import (
	"bytes"
	"crypto/sha256"
	"fmt"
	"math"
	"reflect"
	"slices"
	"strings"
	"testing"

	"turnkey/api"
)

func m(name string, op int, text string) api.Matcher {
	return api.Matcher{Name: name, Op: op, Text: text}
}

// grantFor is one for a token, whose digest is made by other means than the program's.
func grantFor(token string, rights int, policy ...api.Matcher) api.Grant {
	return api.Grant{Digest: sha256.Sum256([]byte(token)), Rights: rights, Policy: policy}
}

// grantOf is one for a digest of which the last byte alone is not 0.
func grantOf(last byte, rights int, policy ...api.Matcher) api.Grant {
	return api.Grant{Digest: [32]byte{31: last}, Rights: rights, Policy: policy}
}

// same: a list of nothing may be nil or empty.
func same(a, b api.Grant) bool {
	return a.Digest == b.Digest && a.Rights == b.Rights && slices.Equal(a.Policy, b.Policy)
}

func answers(t *testing.T, what string, e, want api.Errno) {
	t.Helper()
	if e != want {
		t.Errorf("%s: %d; want %d", what, e, want)
	}
}

func bears(t *testing.T, x *Table, tenant, token string, want api.Grant) {
	t.Helper()
	if g, e := x.Check(tenant, []byte(token)); !same(g, want) || e != api.OK {
		t.Errorf("P2: Check(%q, %q): %v, %d; want %v", tenant, token, g, e, want)
	}
}

func bearsNothing(t *testing.T, x *Table, tenant, token string) {
	t.Helper()
	if g, e := x.Check(tenant, []byte(token)); !reflect.DeepEqual(g, api.Grant{}) || e != api.ErrToken {
		t.Errorf("P2: Check(%q, %q): %v, %d; want ErrToken", tenant, token, g, e)
	}
}

func lists(t *testing.T, x *Table, tenant string, want ...api.Grant) {
	t.Helper()
	if l := x.List(tenant); !slices.EqualFunc(l, want, same) {
		t.Errorf("P2: List(%q): %v; want %v", tenant, l, want)
	}
}

// filled is a table in which the tenant t has as many grants as may be, for the digests 1 to 16.
func filled(t *testing.T) *Table {
	t.Helper()
	x := New()
	for i := range api.MaxTokens {
		answers(t, fmt.Sprintf("P1: Grant number %d", i+1), x.Grant("t", grantOf(byte(i+1), i%15+1)), api.OK)
	}
	return x
}

func TestExamples(t *testing.T) {
	x, ax := New(), m("a", api.OpIs, "x")
	abc := grantFor("abc", 3, ax)
	answers(t, "P1: Grant", x.Grant("t", abc), api.OK)
	answers(t, "P1: Grant once more", x.Grant("t", abc), api.ErrKnown)
	answers(t, "P1: Grant of another tenant", x.Grant("u", abc), api.OK)
	bears(t, x, "t", "abc", abc)
	bearsNothing(t, x, "t", "abd")
	bearsNothing(t, x, "v", "abc")
	bearsNothing(t, x, "t", "")
	answers(t, "P1: rights 0", x.Grant("t", grantFor("b", 0)), api.ErrArg)
	answers(t, "P1: rights 16", x.Grant("t", grantFor("b", 16)), api.ErrArg)
	answers(t, "P1: Revoke", x.Revoke("t", abc.Digest), api.OK)
	answers(t, "P1: Revoke again", x.Revoke("t", abc.Digest), api.ErrToken)
	bearsNothing(t, x, "t", "abc")
	bears(t, x, "u", "abc", abc)
}

func TestNobodyHasAGrantAtFirst(t *testing.T) {
	x := New()
	for _, tenant := range []string{"", "t", "\x00", "\xff", strings.Repeat("t", 1000)} {
		bearsNothing(t, x, tenant, "k")
		bearsNothing(t, x, tenant, "")
		lists(t, x, tenant)
		answers(t, "P1: Revoke", x.Revoke(tenant, [32]byte{}), api.ErrToken)
		answers(t, "P1: Revoke", x.Revoke(tenant, sha256.Sum256([]byte("k"))), api.ErrToken)
		if n := x.Drop(tenant); n != 0 {
			t.Errorf("P1: Drop(%q): %d", tenant, n)
		}
	}
	if len(x.grants) != 0 {
		t.Errorf("what is asked of nobody is kept: %v", x.grants)
	}
}

func TestRightsAreFromOneToFifteen(t *testing.T) {
	for _, rights := range []int{math.MinInt, -16, -1, 0, 16, 17, 31, 255, 256, 257, 1 << 32, 1<<32 + 1, math.MaxInt} {
		x := New()
		answers(t, fmt.Sprintf("P1: rights %d", rights), x.Grant("t", grantFor("k", rights)), api.ErrArg)
		bearsNothing(t, x, "t", "k")
		lists(t, x, "t")
	}
	for rights := 1; rights <= 15; rights++ {
		x := New()
		answers(t, fmt.Sprintf("P1: rights %d", rights), x.Grant("t", grantFor("k", rights)), api.OK)
		bears(t, x, "t", "k", grantFor("k", rights))
	}
}

func wrongPolicies() [][]api.Matcher {
	nine := slices.Repeat([]api.Matcher{m("a", api.OpIs, "x")}, 9)
	return [][]api.Matcher{
		{{}}, {m("", 1, "x")}, {m("1a", 1, "x")}, {m("a", 0, "x")}, {m("a", 5, "x")}, {m("a", -1, "x")}, {m("a", 1, "\xff")}, {m("a", 2, strings.Repeat("v", 65))},
		{m("a", 3, "(")}, {m("a", 4, "a**")}, {m(strings.Repeat("n", 33), 1, "x")}, {m("a", 1, "x"), {}}, nine,
	}
}

func TestPoliciesThatMayNotBe(t *testing.T) {
	for _, policy := range wrongPolicies() {
		x := New()
		answers(t, fmt.Sprintf("P1: policy %v", policy), x.Grant("t", grantFor("k", 1, policy...)), api.ErrMatch)
		bearsNothing(t, x, "t", "k")
		lists(t, x, "t")
	}
}

func rightPolicies() [][]api.Matcher {
	return [][]api.Matcher{
		nil, {}, {m("a", api.OpIs, "")}, {m("b", api.OpNot, "y"), m("a", api.OpLike, "x|[cba]*"), m("b", api.OpUnlike, "")},
		{m("a", api.OpIs, "x"), m("a", api.OpIs, "x")}, {m("a", api.OpIs, "\"\\\n é")}, slices.Repeat([]api.Matcher{m("z", api.OpLike, `\.`)}, 8), longestPolicy(),
	}
}

// longestPolicy has the text with the most bytes: each of its texts is written in twice as many as it has.
func longestPolicy() []api.Matcher {
	return slices.Repeat([]api.Matcher{m(strings.Repeat("n", 32), api.OpNot, strings.Repeat(`"`, 64))}, 8)
}

// A policy comes out as it went in, its order, too: nothing of it is sorted, put together or left out.
func TestPoliciesStayAsTheyAre(t *testing.T) {
	x := New()
	for i, policy := range rightPolicies() {
		token := fmt.Sprint("token", i)
		g := grantFor(token, i+1, policy...)
		answers(t, fmt.Sprintf("P1: policy %v", policy), x.Grant("t", g), api.OK)
		bears(t, x, "t", token, g)
		if l := x.List("t"); !slices.ContainsFunc(l, func(one api.Grant) bool { return same(one, g) }) {
			t.Errorf("P2: List lacks %v", g)
		}
	}
}

// Each of these grants is wrong in several ways: the first one is told.
func TestTheOrderOfErrors(t *testing.T) {
	x, wrong := filled(t), api.Matcher{}
	for _, c := range []struct {
		what string
		g    api.Grant
		want api.Errno
	}{
		{"rights, policy, known, many", grantOf(1, 0, wrong), api.ErrArg},
		{"rights, policy, many", grantOf(99, 16, wrong), api.ErrArg},
		{"rights, known, many", grantOf(1, -1), api.ErrArg},
		{"rights, many", grantOf(99, math.MaxInt), api.ErrArg},
		{"policy, known, many", grantOf(16, 1, wrong), api.ErrMatch},
		{"policy, many", grantOf(99, 15, wrong), api.ErrMatch},
		{"known, many", grantOf(8, 15), api.ErrKnown},
		{"many", grantOf(99, 15), api.ErrMany},
	} {
		answers(t, "P1: Grant: "+c.what, x.Grant("t", c.g), c.want)
	}
	answers(t, "P1: another tenant has room", x.Grant("u", grantOf(99, 15)), api.OK)
	answers(t, "P1: Revoke", x.Revoke("t", grantOf(5, 0).Digest), api.OK)
	answers(t, "P1: policy, behind Revoke", x.Grant("t", grantOf(1, 1, wrong)), api.ErrMatch)
	answers(t, "P1: known, behind Revoke", x.Grant("t", grantOf(1, 1)), api.ErrKnown)
	answers(t, "P1: Grant behind Revoke", x.Grant("t", grantOf(99, 15)), api.OK)
	answers(t, "P1: many again", x.Grant("t", grantOf(5, 15)), api.ErrMany)
}

// A grant that is known stays as it was, whatever the other one would have been.
func TestRefusalsChangeNothing(t *testing.T) {
	x, policy := filled(t), []api.Matcher{m("a", api.OpIs, "x")}
	before, asBytes := x.List("t"), x.Save("t")
	x.Grant("t", grantOf(1, 15, policy...))
	x.Grant("t", grantOf(99, 15, policy...))
	x.Grant("t", grantOf(99, 0))
	x.Grant("u", grantOf(1, 16, policy...))
	x.Grant("u", grantOf(1, 1, api.Matcher{}))
	x.Revoke("t", grantOf(99, 0).Digest)
	x.Revoke("u", grantOf(1, 0).Digest)
	x.Load("t", []byte{0})
	x.Load("t", asBytes)
	x.Load("u", asBytes[:len(asBytes)-1])
	lists(t, x, "t", before...)
	lists(t, x, "u")
	if len(x.grants) != 1 || !bytes.Equal(x.Save("t"), asBytes) {
		t.Errorf("P2: what was refused changed something: %v", x.grants)
	}
}

// Whether a digest is that of bytes that may be a token is nobody's affair: it is granted, but no such bytes are checked.
func TestTokensAreOneToSixtyFourBytes(t *testing.T) {
	x := New()
	for i, size := range []int{0, 1, 2, 32, 63, 64, 65, 66, 128, 1000} {
		token := strings.Repeat("t", size)
		g := grantFor(token, i+1)
		answers(t, fmt.Sprintf("P1: Grant of %d bytes", size), x.Grant("t", g), api.OK)
		if size >= 1 && size <= 64 {
			bears(t, x, "t", token, g)
		} else {
			bearsNothing(t, x, "t", token)
		}
	}
	if g, e := x.Check("t", nil); !reflect.DeepEqual(g, api.Grant{}) || e != api.ErrToken {
		t.Errorf("P2: Check of nil: %v, %d", g, e)
	}
}

// Of a token all its bytes count, and its digest is none.
func TestTokensAreAnyBytes(t *testing.T) {
	x := New()
	tokens := []string{"k", "k\x00", "\x00", "\x00\x00", "\xff", " k", "K", "kk"}
	for i, token := range tokens {
		answers(t, fmt.Sprintf("P1: Grant for %q", token), x.Grant("t", grantFor(token, i+1)), api.OK)
	}
	for i, token := range tokens {
		bears(t, x, "t", token, grantFor(token, i+1))
	}
	digest := sha256.Sum256([]byte("k"))
	bearsNothing(t, x, "t", string(digest[:]))
	bearsNothing(t, x, "t", "k ")
	bearsNothing(t, x, "t", "\xff\x00")
}

func TestListRisesByDigests(t *testing.T) {
	digests := [][32]byte{{}, {31: 1}, {31: 0x7f}, {31: 0x80}, {31: 0xff}, {30: 1}, {1: 0xff}, {0: 1}, {0: 1, 31: 1}, {0: 0x7f, 1: 0xff}, {0: 0x80}, {0: 0xff}}
	want := make([]api.Grant, len(digests))
	for i, digest := range digests {
		want[i] = api.Grant{Digest: digest, Rights: i + 1}
	}
	falling, x := New(), New()
	for i := range want {
		falling.Grant("t", want[len(want)-1-i])
		x.Grant("t", want[i*5%len(want)])
	}
	lists(t, falling, "t", want...)
	lists(t, x, "t", want...)
	for i := range want {
		answers(t, "P1: Revoke", x.Revoke("t", want[i].Digest), api.OK)
		lists(t, x, "t", want[i+1:]...)
	}
}

func TestTenantsAreApart(t *testing.T) {
	x := New()
	tenants := []string{"", "t", "t ", "T", "\x00", "t\x00", "\xff", strings.Repeat("t", 1000)}
	for i, tenant := range tenants {
		answers(t, "P1: Grant", x.Grant(tenant, grantFor("k", i+1, m("a", api.OpIs, "x"))), api.OK)
		answers(t, "P1: Grant", x.Grant(tenant, grantFor(tenant+"!", 15)), api.OK)
	}
	for i, tenant := range tenants {
		bears(t, x, tenant, "k", grantFor("k", i+1, m("a", api.OpIs, "x")))
		for _, other := range tenants {
			if other != tenant {
				bearsNothing(t, x, tenant, (other + "!")[:min(len(other)+1, 64)])
			}
		}
	}
	answers(t, "P1: Revoke of another one's", x.Revoke("", grantFor("t!", 0).Digest), api.ErrToken)
	answers(t, "P1: Revoke", x.Revoke("t", grantFor("k", 0).Digest), api.OK)
	for i, tenant := range tenants {
		if tenant != "t" {
			bears(t, x, tenant, "k", grantFor("k", i+1, m("a", api.OpIs, "x")))
		}
	}
}

func TestDropTakesAllOfOneTenant(t *testing.T) {
	x := filled(t)
	x.Grant("u", grantFor("k", 3))
	if n := x.Drop("t"); n != api.MaxTokens {
		t.Errorf("P1: Drop: %d", n)
	}
	lists(t, x, "t")
	lists(t, x, "u", grantFor("k", 3))
	if n := x.Drop("t"); n != 0 {
		t.Errorf("P1: Drop again: %d", n)
	}
	answers(t, "P1: Revoke behind Drop", x.Revoke("t", grantOf(1, 0).Digest), api.ErrToken)
	answers(t, "P1: Grant behind Drop", x.Grant("t", grantOf(1, 9)), api.OK)
	lists(t, x, "t", grantOf(1, 9))
	if n := x.Drop("t") + x.Drop("u"); n != 2 || len(x.grants) != 0 {
		t.Errorf("P1: Drop of the last ones: %d, and %v is kept", n, x.grants)
	}
}

// Who has no grants any more leaves no trace, by whichever way.
func TestWhoHasNoneIsNotKept(t *testing.T) {
	x := filled(t)
	for i := range api.MaxTokens {
		answers(t, "P1: Revoke", x.Revoke("t", grantOf(byte(i+1), 0).Digest), api.OK)
	}
	if n, e := x.Load("u", []byte{0}); n != 1 || e != api.OK {
		t.Errorf("P3: Load of nothing: %d, %d", n, e)
	}
	if len(x.grants) != 0 {
		t.Errorf("who has no grants is kept: %v", x.grants)
	}
	lists(t, x, "t")
	answers(t, "P1: Grant behind all Revokes", x.Grant("t", grantOf(1, 1)), api.OK)
}

// roomy is a policy with spare room behind it.
func roomy(policy ...api.Matcher) []api.Matcher {
	return append(make([]api.Matcher, 0, len(policy)+3), policy...)
}

func scribble(l []api.Matcher) {
	l = l[:cap(l)]
	for i := range l {
		l[i] = api.Matcher{Name: "mine", Op: 7, Text: "mine"}
	}
}

func TestNothingHandedInIsKeptOrWritten(t *testing.T) {
	want := grantFor("k", 3, m("b", api.OpIs, "x"), m("a", api.OpNot, "y"))
	x, policy := New(), roomy(want.Policy...)
	x.Grant("t", api.Grant{Digest: want.Digest, Rights: 3, Policy: policy})
	if room := policy[:cap(policy)]; !slices.Equal(policy, want.Policy) || room[2] != (api.Matcher{}) {
		t.Errorf("P3: Grant writes into what it is given: %v", room)
	}
	scribble(policy)
	bears(t, x, "t", "k", want)

	saved := x.Save("t")
	b := slices.Concat(saved, make([]byte, 9))
	if n, e := x.Load("u", b[:len(saved)]); n != len(saved) || e != api.OK || !bytes.Equal(b, slices.Concat(saved, make([]byte, 9))) {
		t.Errorf("P3: Load: %d, %d, and %x is left", n, e, b)
	}
	clear(b)
	bears(t, x, "u", "k", want)

	token := append(make([]byte, 0, 200), "k"...)
	x.Check("t", token)
	if string(token) != "k" || !bytes.Equal(token[:cap(token)][1:], make([]byte, cap(token)-1)) {
		t.Errorf("P3: Check writes into what it is given: %x", token[:cap(token)])
	}
}

func TestAnswersAreNewMemory(t *testing.T) {
	x := New()
	one := grantOf(1, 3, m("b", api.OpIs, "x"), m("a", api.OpNot, "y"))
	k := grantFor("k", 5, m("c", api.OpLike, "z"))
	x.Grant("t", one)
	x.Grant("t", k)
	saved := x.Save("t")
	want := bytes.Clone(saved)

	first, second := x.List("t"), x.List("t")
	for _, g := range first {
		scribble(g.Policy)
	}
	clear(first[:cap(first)])
	if !slices.EqualFunc(second, []api.Grant{one, k}, same) {
		t.Errorf("P3: two lists share memory: %v", second)
	}
	scribble(second[0].Policy)
	if !same(second[1], k) {
		t.Errorf("P3: two lists of one answer share memory: %v", second)
	}
	g, _ := x.Check("t", []byte("k"))
	other, _ := x.Check("t", []byte("k"))
	scribble(g.Policy)
	if !same(other, k) {
		t.Errorf("P3: two answers of Check share memory: %v", other)
	}
	clear(saved[:cap(saved)])
	lists(t, x, "t", one, k)
	if got := x.Save("t"); !bytes.Equal(got, want) {
		t.Errorf("P3: Save: %x; it was %x", got, want)
	}
}

func TestTablesAreApart(t *testing.T) {
	x, y := New(), New()
	x.Grant("t", grantFor("k", 1))
	lists(t, y, "t")
	answers(t, "P4: Grant in another table", y.Grant("t", grantFor("k", 2)), api.OK)
	y.Drop("t")
	bears(t, x, "t", "k", grantFor("k", 1))
}
