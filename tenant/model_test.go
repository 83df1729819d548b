package tenant

import (
	"bytes"
	"crypto/sha256"
	"encoding/binary"
	"fmt"
	"maps"
	"math"
	"math/rand"
	"reflect"
	"slices"
	"testing"

	"turnkey/api"
	"turnkey/chunk"
	"turnkey/label"
	"turnkey/match"
)

// plain is all tenants by the chapter's words: lists, gone through each time.
type plain struct {
	slots   int
	tenants map[string]plainTenant
}

type plainTenant struct {
	account api.Account
	grants  []api.Grant
	series  []api.Series // as they came
}

func newPlain(slots int) plain {
	return plain{slots, map[string]plainTenant{}}
}

// chunksOf: as many samples as go in, from the first that the chunk ahead did not take.
func chunksOf(l []api.Sample) [][]byte {
	var out [][]byte
	c := chunk.New(128)
	for _, one := range l {
		if !c.Append(one.T, one.V) {
			out = append(out, c.Bytes())
			c = chunk.New(128)
			c.Append(one.T, one.V)
		}
	}
	if c.Len() > 0 {
		out = append(out, c.Bytes())
	}
	return out
}

func (p plain) used(name string) int {
	count := 0
	for _, s := range p.tenants[name].series {
		count += len(chunksOf(s.Samples))
	}
	return count
}

func (p plain) free() int {
	left := p.slots
	for name := range p.tenants {
		left -= p.used(name)
	}
	return left
}

func (p plain) names() []string {
	return slices.Sorted(maps.Keys(p.tenants))
}

func putText(b []byte, s string) []byte {
	return append(binary.AppendUvarint(b, uint64(len(s))), s...)
}

func (g plainTenant) save(b []byte) []byte {
	for _, n := range []int64{int64(g.account.MaxSeries), int64(g.account.MaxSamples), g.account.Window, int64(g.account.Written), int64(len(g.grants))} {
		b = binary.AppendUvarint(b, uint64(n))
	}
	rising := slices.SortedFunc(slices.Values(g.grants), func(a, b api.Grant) int { return bytes.Compare(a.Digest[:], b.Digest[:]) })
	for _, one := range rising {
		b = append(b, one.Digest[:]...)
		b = binary.AppendUvarint(b, uint64(one.Rights))
		b = putText(b, match.Print(one.Policy))
	}
	b = binary.AppendUvarint(b, uint64(len(g.series)))
	for _, s := range g.series {
		b = binary.AppendUvarint(b, uint64(len(s.Labels)))
		for _, l := range s.Labels {
			b = putText(putText(b, l.Name), l.Value)
		}
		chunks := chunksOf(s.Samples)
		b = binary.AppendUvarint(b, uint64(len(chunks)))
		for _, c := range chunks {
			b = putText(b, string(c))
		}
	}
	return b
}

func (p plain) save() []byte {
	b := binary.AppendUvarint(nil, uint64(len(p.tenants)))
	for _, name := range p.names() {
		b = p.tenants[name].save(putText(b, name))
	}
	return b
}

func isPlainName(s string) bool {
	if len(s) < 1 || len(s) > 16 {
		return false
	}
	for _, c := range []byte(s) {
		if !bytes.Contains([]byte("abcdefghijklmnopqrstuvwxyz0123456789-"), []byte{c}) {
			return false
		}
	}
	return true
}

// behind is all behind a change, in memory of its own; with an error: nothing.
func (p plain) behind(c api.Change) (plain, api.Errno) {
	one, known := p.tenants[c.Tenant]
	switch {
	case c.Kind < 1 || c.Kind > 5:
		return plain{}, api.ErrArg
	case !isPlainName(c.Tenant):
		return plain{}, api.ErrName
	case c.Kind != api.ChangeMake && !known:
		return plain{}, api.ErrTenant
	}
	out := plain{p.slots, maps.Clone(p.tenants)}
	e := api.OK
	switch c.Kind {
	case api.ChangeMake:
		one, e = makePlain(c, known)
	case api.ChangeRemove:
		delete(out.tenants, c.Tenant)
		return out, api.OK
	case api.ChangeGrant:
		one, e = one.grant(c.Grant)
	case api.ChangeRevoke:
		one, e = one.revoke(c.Digest)
	case api.ChangeWrite:
		one, e = one.write(c)
	}
	if e != api.OK {
		return plain{}, e
	}
	out.tenants[c.Tenant] = one
	if out.free() < 0 {
		return plain{}, api.ErrPool
	}
	return out, api.OK
}

func makePlain(c api.Change, known bool) (plainTenant, api.Errno) {
	switch {
	case c.Series < 1, c.Series > 1000000, c.Samples < 1, c.Samples > 1000000:
		return plainTenant{}, api.ErrLimit
	case known:
		return plainTenant{}, api.ErrKnown
	}
	return plainTenant{account: api.Account{MaxSeries: c.Series, MaxSamples: c.Samples}}, api.OK
}

func (g plainTenant) has(digest [32]byte) bool {
	return slices.ContainsFunc(g.grants, func(one api.Grant) bool { return one.Digest == digest })
}

func (g plainTenant) grant(one api.Grant) (plainTenant, api.Errno) {
	_, e := match.New(one.Policy)
	switch {
	case one.Rights < 1, one.Rights > 15:
		return g, api.ErrArg
	case e != api.OK:
		return g, e
	case g.has(one.Digest):
		return g, api.ErrKnown
	case len(g.grants) == 16:
		return g, api.ErrMany
	}
	g.grants = append(slices.Clone(g.grants), one)
	return g, api.OK
}

func (g plainTenant) revoke(digest [32]byte) (plainTenant, api.Errno) {
	if !g.has(digest) {
		return g, api.ErrToken
	}
	g.grants = slices.DeleteFunc(slices.Clone(g.grants), func(one api.Grant) bool { return one.Digest == digest })
	return g, api.OK
}

func wrongCounts(c api.Change) bool {
	count := 0
	for _, s := range c.Writes {
		if len(s.Samples) == 0 {
			return true
		}
		count += len(s.Samples)
	}
	return c.Window < 0 || c.Window > lastWindow || len(c.Writes) < 1 || len(c.Writes) > 64 || count > 256
}

func (g plainTenant) write(c api.Change) (plainTenant, api.Errno) {
	if wrongCounts(c) {
		return g, api.ErrArg
	}
	for _, s := range c.Writes {
		if label.Right(s.Labels) != api.OK {
			return g, api.ErrLabels
		}
	}
	count := 0
	had := len(g.series)
	g.series = slices.Clone(g.series)
	for _, s := range c.Writes {
		count += len(s.Samples)
		at := slices.IndexFunc(g.series, func(other api.Series) bool { return slices.Equal(other.Labels, s.Labels) })
		if at < 0 {
			at = len(g.series)
			g.series = append(g.series, api.Series{Labels: slices.Clone(s.Labels)})
		}
		g.series[at].Samples = slices.Concat(g.series[at].Samples, s.Samples)
	}
	for _, s := range g.series {
		if !rises(s.Samples) {
			return g, api.ErrStale
		}
	}
	if c.Window > g.account.Window {
		g.account.Window, g.account.Written = c.Window, 0
	}
	g.account.Series += len(g.series) - had
	g.account.Written += count
	switch {
	case g.account.Series > g.account.MaxSeries:
		return g, api.ErrSeries
	case g.account.Written > g.account.MaxSamples:
		return g, api.ErrQuota
	}
	return g, api.OK
}

func rises(l []api.Sample) bool {
	for i := 1; i < len(l); i++ {
		if l[i].T <= l[i-1].T {
			return false
		}
	}
	return true
}

func (p plain) who(name, token string) (api.Grant, api.Errno) {
	for _, g := range p.tenants[name].grants {
		if token != "" && len(token) <= 64 && g.Digest == sha256.Sum256([]byte(token)) {
			return g, api.OK
		}
	}
	return api.Grant{}, api.ErrToken
}

// asked is what the questions by s are answered, as text.
func (p plain) asked(name string, s *match.Set, from, to int64) string {
	var l []api.Series
	count := 0
	names, values := map[string]int{}, map[string]int{}
	for _, one := range p.tenants[name].series {
		if !s.Holds(one.Labels) {
			continue
		}
		count++
		for _, x := range one.Labels {
			names[x.Name]++
			if x.Name == "a" {
				values[x.Value]++
			}
		}
		one.Samples = slices.DeleteFunc(slices.Clone(one.Samples), func(x api.Sample) bool { return x.T < from || x.T > to })
		if len(one.Samples) > 0 {
			l = append(l, one)
		}
	}
	slices.SortFunc(l, func(a, b api.Series) int { return label.Cmp(a.Labels, b.Labels) })
	return fmt.Sprint(l, count, slices.Sorted(maps.Keys(names)), slices.Sorted(maps.Keys(values)))
}

func (p plain) entries() (int, int) {
	keys, count := map[[3]string]bool{}, 0
	for name, one := range p.tenants {
		for _, s := range one.series {
			count += 1 + len(s.Labels)
			keys[[3]string{name}] = true
			for _, l := range s.Labels {
				keys[[3]string{name, l.Name, l.Value}] = true
			}
		}
	}
	return len(keys), count
}

// pair is tenants, and what the words make of them.
type pair struct {
	x *Tenants
	p plain
}

func (b *pair) do(t *testing.T, c api.Change) api.Errno {
	t.Helper()
	next, want := b.p.behind(c)
	after := len(b.p.save())
	if want == api.OK {
		after = len(next.save())
	}
	if n := b.x.After(c); n != after {
		t.Fatalf("Q4: After of %v: %d; want %d", c, n, after)
	}
	if e := b.x.Check(c); e != want {
		t.Fatalf("Q2: Check of %v: %d; want %d", c, e, want)
	}
	if e := b.x.Do(c); e != want {
		t.Fatalf("Q2: Do of %v: %d; want %d", c, e, want)
	}
	if want == api.OK {
		b.p = next
	}
	return want
}

func (b *pair) agree(t *testing.T) {
	t.Helper()
	x, p := b.x, b.p
	want := p.save()
	if got := x.Save(); !bytes.Equal(got, want) || x.Size() != len(want) {
		t.Fatalf("Q4: Save: %x; want %x; Size: %d", got, want, x.Size())
	}
	keys, entries := x.Entries()
	if k, n := p.entries(); keys != k || entries != n {
		t.Fatalf("Q5: Entries: %d, %d; want %d, %d", keys, entries, k, n)
	}
	if x.Free() != p.free() || !slices.Equal(x.Tenants(), p.names()) {
		t.Fatalf("Q5: Free: %d; want %d; Tenants: %q", x.Free(), p.free(), x.Tenants())
	}
	for _, name := range []string{"t", "u", "u-", "T", ""} {
		b.agreeOn(t, name)
	}
}

func (b *pair) agreeOn(t *testing.T, name string) {
	t.Helper()
	x, p := b.x, b.p
	_, there := p.tenants[name]
	if account, known := x.Account(name); account != p.tenants[name].account || known != there || x.Slots(name) != p.used(name) {
		t.Fatalf("Q5: of %q: %v, %v, %d slots; want %v, %d", name, account, known, x.Slots(name), p.tenants[name].account, p.used(name))
	}
	for _, token := range someTokens() {
		g, e := x.Who(name, []byte(token))
		want, wantE := p.who(name, token)
		if g.Digest != want.Digest || g.Rights != want.Rights || !slices.Equal(g.Policy, want.Policy) || e != wantE {
			t.Fatalf("Q3: Who(%q, %q): %v, %d; want %v, %d", name, token, g, e, want, wantE)
		}
	}
	for _, text := range []string{"{}", `{a="x"}`, `{a!="x"}`, `{b=""}`, `{a=~"x|y", b!=""}`} {
		for _, span := range [][2]int64{{math.MinInt64, math.MaxInt64}, {3, 9}, {9, 3}} {
			s := set(t, text)
			got := fmt.Sprint(x.Select(name, s, span[0], span[1]), x.Count(name, s), x.Names(name, s), x.Values(name, s, "a"))
			if want := p.asked(name, s, span[0], span[1]); got != want {
				t.Fatalf("Q3: of %q by %s, %v: %s; want %s", name, text, span, got, want)
			}
		}
	}
}

func someTokens() []string {
	out := []string{""}
	for i := range 20 {
		out = append(out, fmt.Sprint("k", i))
	}
	return out
}

func pick[T any](r *rand.Rand, l ...T) T {
	return l[r.Intn(len(l))]
}

func someLabels(r *rand.Rand) []api.Label {
	if r.Intn(80) == 0 {
		return pick(r, nil, labels("a", ""), labels("b", "x", "a", "x"), labels("a", "x", "a", "y"), labels("1", "x"), labels("a", "\xff"))
	}
	var out []api.Label
	for _, name := range []string{"a", "b", "c"} {
		if r.Intn(3) > 0 {
			out = append(out, api.Label{Name: name, Value: pick(r, "x", "y", "é\"")})
		}
	}
	if len(out) == 0 {
		return labels("d", pick(r, "x", "0"))
	}
	return out
}

// someSamples rise, but for a few.
func (b *pair) someSamples(r *rand.Rand, name string, l []api.Label) []api.Sample {
	last := int64(r.Intn(10)) - 5
	for _, s := range b.p.tenants[name].series {
		if slices.Equal(s.Labels, l) && r.Intn(40) > 0 {
			last = s.Samples[len(s.Samples)-1].T
		}
	}
	var out []api.Sample
	for range pick(r, 0, 1, 1, 1, 2, 2, 3, 5, 9, 30, 100) {
		last += pick[int64](r, 1, 1, 1, 1, 2, 60, 1000, 1<<30)
		if r.Intn(200) == 0 {
			last -= 5
		}
		out = append(out, api.Sample{T: last, V: pick(r, 0, 0, 1, r.Uint64())})
	}
	if len(out) == 0 && r.Intn(5) > 0 {
		return []api.Sample{{T: last + 1, V: 3}}
	}
	return out
}

func (b *pair) someWrite(r *rand.Rand, name string) api.Change {
	c := writes(name, pick[int64](r, 0, 1, 1, 2, 2, 3, 200, lastWindow))
	if r.Intn(40) == 0 {
		c.Window = pick[int64](r, -1, lastWindow+1, math.MinInt64, math.MaxInt64)
	}
	for range pick(r, 0, 1, 1, 1, 1, 2, 2, 3, 5, 9, 66) {
		l := someLabels(r)
		c.Writes = append(c.Writes, api.Series{Labels: l, Samples: b.someSamples(r, name, l)})
	}
	return c
}

func (b *pair) someChange(r *rand.Rand) api.Change {
	name := pick(r, "t", "t", "t", "u", "u", "u-")
	if r.Intn(40) == 0 {
		name = pick(r, "", "T", "t ", "0123456789abcdefg")
	}
	token := pick(r, someTokens()...)
	switch kind := r.Intn(40); {
	case kind == 0:
		c := b.someWrite(r, name)
		c.Kind = pick(r, 0, -1, 6, math.MaxInt)
		return c
	case kind < 5:
		return makes(name, pick(r, 0, 1, 2, 8, 300, 1000001), pick(r, 1, 5, 100, 200, 500, -1))
	case kind == 5 && r.Intn(3) == 0:
		return removes(name)
	case kind < 16:
		return grants(name, token, pick(r, 0, 1, 1, 2, 2, 3, 7, 7, 15, 15, 16), pick(r, nil, nil, nil, []api.Matcher{}, []api.Matcher{{Name: "a", Op: 1, Text: "x"}}, []api.Matcher{{Name: "b", Op: 4, Text: "(x|y)*"}, {Name: "a", Op: 2}}, []api.Matcher{{}})...)
	case kind < 18:
		return revokes(name, token)
	}
	return b.someWrite(r, name)
}

func TestAgainstThePlainList(t *testing.T) {
	met := map[api.Errno]int{}
	for seed := range int64(40) {
		r := rand.New(rand.NewSource(seed))
		slots := pick(r, 1, 3, 10, 40, 200)
		b := &pair{made(t, slots), newPlain(slots)}
		for range 300 {
			met[b.do(t, b.someChange(r))]++
			if r.Intn(3) == 0 {
				b.agree(t)
			}
			if r.Intn(20) == 0 {
				b.reload(t, slots)
			}
		}
		b.agree(t)
	}
	for _, e := range []api.Errno{api.OK, api.ErrArg, api.ErrName, api.ErrLimit, api.ErrKnown, api.ErrTenant, api.ErrMatch, api.ErrMany, api.ErrToken, api.ErrLabels, api.ErrStale, api.ErrSeries, api.ErrQuota, api.ErrPool} {
		if met[e] < 5 {
			t.Errorf("the error %d was met %d times", e, met[e])
		}
	}
}

// reload goes on with what was saved and loaded; with just as many slots as are needed it goes, too, with one less it does not.
func (b *pair) reload(t *testing.T, slots int) {
	t.Helper()
	saved := b.x.Save()
	needs := slots - b.x.Free()
	if needs > 1 {
		if y, e := Load(saved, needs-1); y != nil || e != api.ErrState {
			t.Fatalf("Q4: Load with %d of %d slots: %d", needs-1, needs, e)
		}
	}
	if y, e := Load(saved, max(needs, 1)); e != api.OK || !reflect.DeepEqual(y.Save(), saved) {
		t.Fatalf("Q4: Load with %d slots: %d", needs, e)
	}
	x, e := Load(saved, slots)
	if e != api.OK {
		t.Fatalf("Q4: Load: %d", e)
	}
	b.x = x
	b.agree(t)
}
