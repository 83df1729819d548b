package gate

import (
	"bytes"
	"crypto/sha256"
	"encoding/binary"
	"errors"
	"maps"
	"regexp"
	"slices"

	"turnkey/api"
	"turnkey/ask"
	"turnkey/chunk"
	"turnkey/label"
	"turnkey/match"
	"turnkey/wire"
)

const lastWindow = 18764998447 // 2^50 by 60000

// plain is a door by the chapter's words: lists of tenants, gone through each time.
type plain struct {
	operator string
	slots    int
	tenants  map[string]plainTenant
}

type plainTenant struct {
	account api.Account
	grants  []api.Grant
	series  []api.Series // as they came
}

func newPlain(operator string, slots int) plain {
	return plain{operator, slots, map[string]plainTenant{}}
}

// do is T2, and all behind the change, if there is one.
func (p plain) do(raw []byte, window int64) (answer, change []byte, next plain) {
	r, c := p.response(raw, window)
	if c.Kind == 0 {
		return answerBytes(r), nil, p
	}
	next, e := p.behind(c)
	if e != api.OK {
		return answerBytes(api.Response{Err: e}), nil, p
	}
	return answerBytes(r), changeBytes(c), next
}

// response leaves open whether the change may be made.
func (p plain) response(raw []byte, window int64) (api.Response, api.Change) {
	q, err := wire.Decode(raw)
	if err != nil {
		return api.Response{Err: api.ErrWire}, api.Change{}
	}
	if q.Kind >= 16 {
		if string(q.Token) != p.operator {
			return api.Response{Err: api.ErrToken}, api.Change{}
		}
		return operators(q)
	}
	g, known := p.who(q.Tenant, q.Token)
	wants := map[int]int{1: 1, 2: 2, 3: 2, 4: 4, 5: 4, 6: 4, 7: 8}[q.Kind]
	switch {
	case !known:
		return api.Response{Err: api.ErrToken}, api.Change{}
	case g.Rights&wants == 0:
		return api.Response{Err: api.ErrRight}, api.Change{}
	case q.Kind == api.KindWrite:
		return api.Response{}, api.Change{Kind: api.ChangeWrite, Tenant: q.Tenant, Window: window, Writes: q.Writes}
	case q.Kind == api.KindRemove:
		return api.Response{}, api.Change{Kind: api.ChangeRemove, Tenant: q.Tenant}
	}
	return p.question(q, g.Policy), api.Change{}
}

func operators(q api.Request) (api.Response, api.Change) {
	c := api.Change{Tenant: q.Tenant}
	switch q.Kind {
	case api.KindMake:
		c.Kind, c.Series, c.Samples = api.ChangeMake, q.Series, q.Samples
		return api.Response{}, c
	case api.KindDrop:
		c.Kind = api.ChangeRemove
		return api.Response{}, c
	}
	if len(q.Bears) == 0 {
		return api.Response{Err: api.ErrArg}, api.Change{}
	}
	digest := sha256.Sum256(q.Bears)
	if q.Kind == api.KindRevoke {
		c.Kind, c.Digest = api.ChangeRevoke, digest
		return api.Response{}, c
	}
	c.Kind, c.Grant = api.ChangeGrant, api.Grant{Digest: digest, Rights: q.Rights, Policy: q.Matchers}
	return api.Response{}, c
}

// question goes through the series that hold the policy: nothing else of the tenant is looked at.
func (p plain) question(q api.Request, policy []api.Matcher) api.Response {
	seen := slices.DeleteFunc(slices.Clone(p.tenants[q.Tenant].series), func(s api.Series) bool { return !holds(policy, s.Labels) })
	if q.Kind == api.KindAsk {
		return questionText(q.Question, seen)
	}
	if _, e := match.New(q.Matchers); e != api.OK {
		return api.Response{Err: api.ErrMatch}
	}
	seen = slices.DeleteFunc(seen, func(s api.Series) bool { return !holds(q.Matchers, s.Labels) })
	names, values := map[string]int{}, map[string]int{}
	for _, s := range seen {
		for _, l := range s.Labels {
			names[l.Name]++
			if l.Name == q.Name {
				values[l.Value]++
			}
		}
	}
	switch q.Kind {
	case api.KindCount:
		return api.Response{Kind: api.AnswerNumber, Number: len(seen)}
	case api.KindNames:
		return api.Response{Kind: api.AnswerTexts, Texts: slices.Sorted(maps.Keys(names))}
	case api.KindValues:
		return api.Response{Kind: api.AnswerTexts, Texts: slices.Sorted(maps.Keys(values))}
	}
	if q.From > q.To {
		return api.Response{Err: api.ErrArg}
	}
	return api.Response{Kind: api.AnswerSeries, Series: during(seen, q.From, q.To)}
}

func questionText(s string, seen []api.Series) api.Response {
	q, err := ask.Parse(s)
	var fault *api.Fault
	if errors.As(err, &fault) {
		return api.Response{Err: fault.Err}
	}
	return api.Response{Kind: api.AnswerRows, Rows: ask.Run(q, seen)}
}

func during(l []api.Series, from, to int64) []api.Series {
	var out []api.Series
	for _, s := range l {
		s.Samples = slices.DeleteFunc(slices.Clone(s.Samples), func(x api.Sample) bool { return x.T < from || x.T > to })
		if len(s.Samples) > 0 {
			out = append(out, s)
		}
	}
	slices.SortFunc(out, func(a, b api.Series) int { return label.Cmp(a.Labels, b.Labels) })
	return out
}

// holds takes patterns that mean the same to package regexp.
func holds(l []api.Matcher, labels []api.Label) bool {
	for _, m := range l {
		value := ""
		for _, one := range labels {
			if one.Name == m.Name {
				value = one.Value
			}
		}
		yes := value == m.Text
		if m.Op == api.OpLike || m.Op == api.OpUnlike {
			yes = regexp.MustCompile("(?s)^(?:" + m.Text + ")$").MatchString(value)
		}
		if yes == (m.Op == api.OpNot || m.Op == api.OpUnlike) {
			return false
		}
	}
	return true
}

func (p plain) who(name string, token []byte) (api.Grant, bool) {
	for _, g := range p.tenants[name].grants {
		if g.Digest == sha256.Sum256(token) {
			return g, true
		}
	}
	return api.Grant{}, false
}

// behind is all behind a change, in memory of its own (chapter 17).
func (p plain) behind(c api.Change) (plain, api.Errno) {
	one, known := p.tenants[c.Tenant]
	switch {
	case !regexp.MustCompile(`^[a-z0-9-]{1,16}\z`).MatchString(c.Tenant):
		return plain{}, api.ErrName
	case c.Kind != api.ChangeMake && !known:
		return plain{}, api.ErrTenant
	}
	out := plain{p.operator, p.slots, maps.Clone(p.tenants)}
	e := api.OK
	switch c.Kind {
	case api.ChangeMake:
		one, e = makePlain(c, known)
	case api.ChangeRemove:
		delete(out.tenants, c.Tenant)
		return out, api.OK
	case api.ChangeGrant:
		one, e = one.grant(c.Grant)
	case api.ChangeRevoke:
		one, e = one.revoke(c.Digest)
	case api.ChangeWrite:
		one, e = one.write(c)
	}
	if e != api.OK {
		return plain{}, e
	}
	out.tenants[c.Tenant] = one
	if out.free() < 0 {
		return plain{}, api.ErrPool
	}
	return out, api.OK
}

func makePlain(c api.Change, known bool) (plainTenant, api.Errno) {
	switch {
	case c.Series < 1, c.Series > 1000000, c.Samples < 1, c.Samples > 1000000:
		return plainTenant{}, api.ErrLimit
	case known:
		return plainTenant{}, api.ErrKnown
	}
	return plainTenant{account: api.Account{MaxSeries: c.Series, MaxSamples: c.Samples}}, api.OK
}

func (g plainTenant) has(digest [32]byte) bool {
	return slices.ContainsFunc(g.grants, func(one api.Grant) bool { return one.Digest == digest })
}

func (g plainTenant) grant(one api.Grant) (plainTenant, api.Errno) {
	_, e := match.New(one.Policy)
	switch {
	case one.Rights < 1, one.Rights > 15:
		return g, api.ErrArg
	case e != api.OK:
		return g, e
	case g.has(one.Digest):
		return g, api.ErrKnown
	case len(g.grants) == 16:
		return g, api.ErrMany
	}
	g.grants = append(slices.Clone(g.grants), one)
	return g, api.OK
}

func (g plainTenant) revoke(digest [32]byte) (plainTenant, api.Errno) {
	if !g.has(digest) {
		return g, api.ErrToken
	}
	g.grants = slices.DeleteFunc(slices.Clone(g.grants), func(one api.Grant) bool { return one.Digest == digest })
	return g, api.OK
}

// write is asked of what wire takes alone: counts are right there.
func (g plainTenant) write(c api.Change) (plainTenant, api.Errno) {
	if c.Window < 0 || c.Window > lastWindow {
		return g, api.ErrArg
	}
	if slices.ContainsFunc(c.Writes, func(s api.Series) bool { return label.Right(s.Labels) != api.OK }) {
		return g, api.ErrLabels
	}
	if c.Window > g.account.Window {
		g.account.Window, g.account.Written = c.Window, 0
	}
	g.series = slices.Clone(g.series)
	for _, s := range c.Writes {
		g.account.Written += len(s.Samples)
		at := slices.IndexFunc(g.series, func(other api.Series) bool { return slices.Equal(other.Labels, s.Labels) })
		if at < 0 {
			at = len(g.series)
			g.series = append(g.series, api.Series{Labels: s.Labels})
		}
		g.series[at].Samples = slices.Concat(g.series[at].Samples, s.Samples)
	}
	g.account.Series = len(g.series)
	switch {
	case slices.ContainsFunc(g.series, func(s api.Series) bool { return !rises(s.Samples) }):
		return g, api.ErrStale
	case g.account.Series > g.account.MaxSeries:
		return g, api.ErrSeries
	case g.account.Written > g.account.MaxSamples:
		return g, api.ErrQuota
	}
	return g, api.OK
}

func rises(l []api.Sample) bool {
	for i := 1; i < len(l); i++ {
		if l[i].T <= l[i-1].T {
			return false
		}
	}
	return true
}

func (p plain) free() int {
	left := p.slots
	for name := range p.tenants {
		left -= p.used(name)
	}
	return left
}

func (p plain) used(name string) int {
	count := 0
	for _, s := range p.tenants[name].series {
		count += len(chunksOf(s.Samples, 128))
	}
	return count
}

// chunksOf: as many samples as go in, from the first that the chunk ahead did not take.
func chunksOf(l []api.Sample, most int) [][]byte {
	var out [][]byte
	c := chunk.New(most)
	for _, one := range l {
		if !c.Append(one.T, one.V) {
			out = append(out, c.Bytes())
			c = chunk.New(most)
			c.Append(one.T, one.V)
		}
	}
	if c.Len() > 0 {
		out = append(out, c.Bytes())
	}
	return out
}

func putUints(b []byte, l ...int) []byte {
	for _, n := range l {
		b = binary.AppendUvarint(b, uint64(n))
	}
	return b
}

func putText(b []byte, s string) []byte {
	return append(putUints(b, len(s)), s...)
}

func putLabels(b []byte, l []api.Label) []byte {
	b = putUints(b, len(l))
	for _, one := range l {
		b = putText(putText(b, one.Name), one.Value)
	}
	return b
}

func putGrant(b []byte, g api.Grant) []byte {
	return putText(putUints(append(b, g.Digest[:]...), g.Rights), match.Print(g.Policy))
}

// save is chapter 17's.
func (p plain) save() []byte {
	b := putUints(nil, len(p.tenants))
	for _, name := range slices.Sorted(maps.Keys(p.tenants)) {
		one := p.tenants[name]
		b = putUints(putText(b, name), one.account.MaxSeries, one.account.MaxSamples, int(one.account.Window), one.account.Written, len(one.grants))
		for _, g := range slices.SortedFunc(slices.Values(one.grants), func(a, b api.Grant) int { return bytes.Compare(a.Digest[:], b.Digest[:]) }) {
			b = putGrant(b, g)
		}
		b = putUints(b, len(one.series))
		for _, s := range one.series {
			b = putLabels(b, s.Labels)
			chunks := chunksOf(s.Samples, 128)
			b = putUints(b, len(chunks))
			for _, c := range chunks {
				b = putText(b, string(c))
			}
		}
	}
	return b
}

// answerBytes is a response by chapter 18.
func answerBytes(r api.Response) []byte {
	if r.Err != api.OK {
		return putUints(nil, int(r.Err))
	}
	b := []byte{0, byte(r.Kind)}
	switch r.Kind {
	case api.AnswerSeries:
		b = putUints(b, len(r.Series))
		for _, s := range r.Series {
			b = putText(putLabels(b, s.Labels), string(bytes.Join(chunksOf(s.Samples, 1<<30), nil)))
		}
	case api.AnswerRows:
		b = putUints(b, len(r.Rows))
		for _, row := range r.Rows {
			b = binary.AppendUvarint(putLabels(b, row.Labels), row.N)
		}
	case api.AnswerNumber:
		b = putUints(b, r.Number)
	case api.AnswerTexts:
		b = putUints(b, len(r.Texts))
		for _, s := range r.Texts {
			b = putText(b, s)
		}
	}
	if len(b) > 1048576 {
		return []byte{0xb5, 0x01}
	}
	return b
}

// changeBytes is T4 of a change that may be packed.
func changeBytes(c api.Change) []byte {
	b := putText([]byte{byte(c.Kind)}, c.Tenant)
	switch c.Kind {
	case api.ChangeMake:
		b = putUints(b, c.Series, c.Samples)
	case api.ChangeGrant:
		b = putGrant(b, c.Grant)
	case api.ChangeRevoke:
		b = append(b, c.Digest[:]...)
	case api.ChangeWrite:
		b = putUints(b, int(c.Window), len(c.Writes))
		for _, s := range c.Writes {
			b = putUints(putLabels(b, s.Labels), len(s.Samples))
			for _, x := range s.Samples {
				b = binary.AppendUvarint(binary.AppendVarint(b, x.T), x.V)
			}
		}
	}
	return b
}
