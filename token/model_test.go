package token

import (
	"bytes"
	"crypto/sha256"
	"encoding/binary"
	"fmt"
	"math/rand"
	"reflect"
	"slices"
	"testing"

	"turnkey/api"
	"turnkey/match"
)

// plain is a table by the chapter's words: one list of all that was granted and is there still, as it came.
type plain []held

type held struct {
	tenant string
	grant  api.Grant
}

func (p plain) find(tenant string, digest [32]byte) int {
	return slices.IndexFunc(p, func(h held) bool { return h.tenant == tenant && h.grant.Digest == digest })
}

// list puts each grant where it belongs among those ahead of it.
func (p plain) list(tenant string) []api.Grant {
	var out []api.Grant
	for _, h := range p {
		if h.tenant != tenant {
			continue
		}
		at := 0
		for at < len(out) && string(out[at].Digest[:]) < string(h.grant.Digest[:]) {
			at++
		}
		out = slices.Insert(out, at, h.grant)
	}
	return out
}

func (p *plain) give(tenant string, g api.Grant) api.Errno {
	_, e := match.New(g.Policy)
	switch {
	case g.Rights < 1, g.Rights > 15:
		return api.ErrArg
	case e != api.OK:
		return e
	case p.find(tenant, g.Digest) >= 0:
		return api.ErrKnown
	case len(p.list(tenant)) == 16:
		return api.ErrMany
	}
	*p = append(*p, held{tenant, g})
	return api.OK
}

func (p *plain) revoke(tenant string, digest [32]byte) api.Errno {
	i := p.find(tenant, digest)
	if i < 0 {
		return api.ErrToken
	}
	*p = slices.Delete(slices.Clone(*p), i, i+1)
	return api.OK
}

func (p *plain) drop(tenant string) int {
	had := len(p.list(tenant))
	*p = slices.DeleteFunc(slices.Clone(*p), func(h held) bool { return h.tenant == tenant })
	return had
}

func (p plain) check(tenant, token string) (api.Grant, api.Errno) {
	i := p.find(tenant, sha256.Sum256([]byte(token)))
	if i < 0 || token == "" || len(token) > 64 {
		return api.Grant{}, api.ErrToken
	}
	return p[i].grant, api.OK
}

func (p plain) save(tenant string) []byte {
	l := p.list(tenant)
	out := []byte{byte(len(l))}
	for _, g := range l {
		out = append(out, written(g.Digest, uint64(g.Rights), match.Print(g.Policy))...)
	}
	return out
}

// load reads what b might tell without asking for one form, grants it to somebody, and looks whether b begins with what that one saves.
func (p *plain) load(tenant string, b []byte) (int, api.Errno) {
	if len(p.list(tenant)) > 0 {
		return 0, api.ErrState
	}
	var other plain
	for _, g := range guess(b) {
		if other.give(tenant, g) != api.OK {
			return 0, api.ErrSave
		}
	}
	saved := other.save(tenant)
	if !bytes.HasPrefix(b, saved) {
		return 0, api.ErrSave
	}
	*p = append(slices.Clone(*p), other...)
	return len(saved), api.OK
}

// guess is the grants that b tells, as far as some can be made out.
func guess(b []byte) []api.Grant {
	var out []api.Grant
	r := bytes.NewReader(b)
	count, _ := binary.ReadUvarint(r)
	for range min(count, 1000) {
		var g api.Grant
		r.Read(g.Digest[:])
		rights, _ := binary.ReadUvarint(r)
		size, _ := binary.ReadUvarint(r)
		text := make([]byte, min(size, uint64(r.Len())))
		r.Read(text)
		g.Rights = int(min(rights, 16))
		g.Policy, _ = match.Parse(string(text))
		out = append(out, g)
	}
	return out
}

// pair is a table, and what the words make of it.
type pair struct {
	table *Table
	plain plain
}

func (b *pair) give(t *testing.T, tenant string, g api.Grant) api.Errno {
	t.Helper()
	want := b.plain.give(tenant, g)
	if e := b.table.Grant(tenant, g); e != want {
		t.Fatalf("P1: Grant(%q, %v): %d; want %d", tenant, g, e, want)
	}
	return want
}

func (b *pair) revoke(t *testing.T, tenant string, digest [32]byte) api.Errno {
	t.Helper()
	want := b.plain.revoke(tenant, digest)
	if e := b.table.Revoke(tenant, digest); e != want {
		t.Fatalf("P1: Revoke(%q, %x): %d; want %d", tenant, digest, e, want)
	}
	return want
}

func (b *pair) drop(t *testing.T, tenant string) {
	t.Helper()
	want := b.plain.drop(tenant)
	if n := b.table.Drop(tenant); n != want {
		t.Fatalf("P1: Drop(%q): %d; want %d", tenant, n, want)
	}
}

func (b *pair) load(t *testing.T, tenant string, raw []byte) api.Errno {
	t.Helper()
	size, want := b.plain.load(tenant, raw)
	if n, e := b.table.Load(tenant, raw); n != size || e != want {
		t.Fatalf("P3: Load(%q, %x): %d, %d; want %d, %d", tenant, raw, n, e, size, want)
	}
	return want
}

// agree holds all that is told against the words, and what is kept, too: nobody but those who have grants.
func (b *pair) agree(t *testing.T, tenants, tokens []string) {
	t.Helper()
	some := 0
	for _, tenant := range tenants {
		want := b.plain.list(tenant)
		if l := b.table.List(tenant); !slices.EqualFunc(l, want, same) {
			t.Fatalf("P2: List(%q): %v; want %v", tenant, l, want)
		}
		if raw := b.table.Save(tenant); !bytes.Equal(raw, b.plain.save(tenant)) {
			t.Fatalf("P3: Save(%q): %x; want %x", tenant, raw, b.plain.save(tenant))
		}
		if len(want) > 0 {
			some++
		}
		for _, token := range tokens {
			grant, want := b.plain.check(tenant, token)
			g, e := b.table.Check(tenant, []byte(token))
			if !same(g, grant) || e != want || e != api.OK && !reflect.DeepEqual(g, api.Grant{}) {
				t.Fatalf("P2: Check(%q, %q): %v, %d; want %v, %d", tenant, token, g, e, grant, want)
			}
		}
	}
	if len(b.table.grants) != some {
		t.Fatalf("%d tenants are kept, of which %d have grants", len(b.table.grants), some)
	}
}

func someTokens() []string {
	out := []string{"", string(make([]byte, 64)), string(make([]byte, 65))}
	for i := range 17 {
		out = append(out, fmt.Sprint("token ", i))
	}
	return out
}

// someGrant mostly may be; here and there something in it may not.
func someGrant(r *rand.Rand, tokens []string) api.Grant {
	right, wrong := rightPolicies(), wrongPolicies()
	g := grantFor(tokens[r.Intn(len(tokens))], r.Intn(15)+1, right[r.Intn(len(right))]...)
	if r.Intn(12) == 0 {
		g.Rights = []int{-1, 0, 16}[r.Intn(3)]
	}
	if r.Intn(12) == 0 {
		g.Policy = wrong[r.Intn(len(wrong))]
	}
	return g
}

// spoiled is what was saved with something behind it, and now and then a byte changed, put in or taken out.
func spoiled(r *rand.Rand, saved []byte) []byte {
	out := append(bytes.Clone(saved), "\x02{}"[:r.Intn(4)]...)
	for range max(0, r.Intn(4)-1) {
		i := r.Intn(len(out) + 1)
		some := []byte{byte(r.Intn(256))}[:r.Intn(2)]
		out = slices.Concat(out[:i], some, out[min(len(out), i+r.Intn(2)):])
	}
	return out
}

func TestAllCallsByTheWords(t *testing.T) {
	tenants, tokens := []string{"a", "b", "", "a ", "never"}, someTokens()
	seen := map[api.Errno]int{}
	for seed := range int64(60) {
		r := rand.New(rand.NewSource(seed))
		b := pair{table: New()}
		for range 120 {
			// One of them is asked more often than the others, so that it has as many as may be.
			tenant := tenants[max(0, r.Intn(10)-6)]
			switch r.Intn(12) {
			case 0, 1:
				seen[b.revoke(t, tenant, sha256.Sum256([]byte(tokens[r.Intn(len(tokens))])))]++
			case 2:
				b.drop(t, tenants[r.Intn(4)])
			case 3, 4:
				seen[b.load(t, tenants[r.Intn(4)], spoiled(r, b.plain.save(tenant)))]++
			default:
				seen[b.give(t, tenant, someGrant(r, tokens))]++
			}
			b.agree(t, tenants, tokens)
		}
	}
	for _, e := range []api.Errno{api.OK, api.ErrArg, api.ErrMatch, api.ErrKnown, api.ErrMany, api.ErrToken, api.ErrState, api.ErrSave} {
		if seen[e] == 0 {
			t.Errorf("the error %d was never met", e)
		}
	}
}

// Each byte of what was saved in turn is each other byte, is taken out, or has one put ahead of it.
func TestLoadOfAllBytesNear(t *testing.T) {
	var p plain
	p.give("t", api.Grant{Digest: [32]byte{1, 2, 3}, Rights: 2, Policy: []api.Matcher{m("a", api.OpIs, "x\\"), m("b", api.OpLike, "y*")}})
	p.give("t", api.Grant{Digest: [32]byte{1, 2, 4}, Rights: 15})
	saved := p.save("t")
	for i := range saved {
		for c := range 256 {
			one := []byte{byte(c)}
			for _, raw := range [][]byte{slices.Concat(saved[:i], one, saved[i+1:]), slices.Concat(saved[:i], one, saved[i:])} {
				b := pair{table: New()}
				if b.load(t, "t", raw) == api.OK {
					b.agree(t, []string{"t"}, nil)
				}
			}
		}
		b := pair{table: New()}
		b.load(t, "t", slices.Delete(bytes.Clone(saved), i, i+1))
	}
}

// Of one tenant the same is told, whatever is done to others between.
func TestOthersChangeNothing(t *testing.T) {
	tokens := someTokens()
	for seed := range int64(30) {
		r := rand.New(rand.NewSource(seed))
		alone, among := New(), New()
		for range 150 {
			g, raw := someGrant(r, tokens), spoiled(r, alone.Save("t"))
			among.Grant("u", g)
			among.Load("v", raw)
			switch r.Intn(8) {
			case 0:
				answers(t, "P1: Revoke", among.Revoke("t", g.Digest), alone.Revoke("t", g.Digest))
			case 1:
				if n, want := among.Drop("t"), alone.Drop("t"); n != want {
					t.Fatalf("P1: Drop: %d; alone %d", n, want)
				}
			case 2:
				n, e := among.Load("t", raw)
				if size, want := alone.Load("t", raw); n != size || e != want {
					t.Fatalf("P3: Load: %d, %d; alone %d, %d", n, e, size, want)
				}
			case 3:
				among.Drop("u")
				among.Drop("v")
			case 4:
				among.Revoke("u", g.Digest)
			default:
				answers(t, "P1: Grant", among.Grant("t", g), alone.Grant("t", g))
			}
			if !bytes.Equal(among.Save("t"), alone.Save("t")) {
				t.Fatalf("of t is told %x; alone %x", among.Save("t"), alone.Save("t"))
			}
		}
	}
}
