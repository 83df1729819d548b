package stack

import (
	"bytes"
	"crypto/sha256"
	"encoding/binary"
	"errors"
	"maps"
	"regexp"
	"slices"

	"turnkey/api"
	"turnkey/ask"
	"turnkey/chunk"
	"turnkey/frame"
	"turnkey/gate"
	"turnkey/label"
	"turnkey/match"
	"turnkey/wire"
)

// plain is a stack by the document's words: a list of tenants, gone through each time, and what lies in its log.
type plain struct {
	operator   string
	cap, slots int
	now        int64
	tenants    list
	live       int    // which of the two files
	file       []byte // what it has, when the stack is opened
	generation uint64
	dead       bool
	fuse       int // how many ops more go; below 0: there is none
	keep       [2]int
}

// list is never written into: behind a change there is another one.
type list map[string]plainTenant

type plainTenant struct {
	account api.Account
	grants  []api.Grant
	series  []api.Series // as they came
}

func newPlain(operator string, cap, slots int) *plain {
	p := &plain{operator: operator, cap: cap, slots: slots, tenants: list{}, generation: 1, fuse: -1}
	p.file = p.head(1, p.tenants)
	return p
}

// head is the frame ahead of all records, with a state (chapter 6).
func (p *plain) head(generation uint64, l list) []byte {
	data := binary.LittleEndian.AppendUint64([]byte("turnkey1"), generation)
	data = binary.LittleEndian.AppendUint32(data, uint32(p.cap))
	data = binary.LittleEndian.AppendUint32(data, uint32(p.slots))
	b, _ := frame.Put(nil, 1, append(data, l.save()...))
	return b
}

// do is U2.
func (p *plain) do(raw []byte) []byte {
	if p.dead {
		return nil
	}
	r, c := p.response(raw)
	if c.Kind == 0 {
		return answerOf(r)
	}
	next, e := p.behind(c)
	if e == api.OK && len(next.save())+33 > p.cap {
		e = api.ErrLog
	}
	if e != api.OK {
		return answerOf(api.Response{Err: e})
	}
	p.last(c, next)
	if p.dead {
		return nil
	}
	return answerOf(r)
}

// last: a record takes two ops, Append and Sync; a checkpoint a Truncate ahead of these, and one behind them.
func (p *plain) last(c api.Change, next list) {
	change, _ := gate.Pack(c)
	record, _ := frame.Put(nil, 2, change)
	small := len(p.file)+len(record) > p.cap
	f, b, ahead, ops := p.live, record, 0, 2
	if small {
		f, b, ahead, ops = 1-p.live, p.head(p.generation+1, next), 1, 4
	}
	if p.fuse >= 0 && p.fuse < ops {
		at := p.fuse
		p.dead, p.fuse = true, -1
		if at < ahead || at < ahead+2 && p.keep[f] < len(b) {
			return
		}
	}
	p.tenants, p.live = next, f
	if small {
		p.file = b
		p.generation++
	} else {
		p.file = slices.Concat(p.file, b)
	}
	if p.fuse >= 0 {
		p.fuse -= ops
	}
}

// open is a stack behind whatever fall.
func (p *plain) open(now int64) {
	p.dead, p.fuse, p.now = false, -1, now
}

func answerOf(r api.Response) []byte {
	b, e := wire.Answer(r)
	if e != api.OK {
		b, _ = wire.Answer(api.Response{Err: e})
	}
	return b
}

// response is chapter 20's; whether the change may be made it leaves open.
func (p *plain) response(raw []byte) (api.Response, api.Change) {
	q, err := wire.Decode(raw)
	if err != nil {
		return api.Response{Err: api.ErrWire}, api.Change{}
	}
	if q.Kind >= 16 {
		if string(q.Token) != p.operator {
			return api.Response{Err: api.ErrToken}, api.Change{}
		}
		return operators(q)
	}
	one := p.tenants[q.Tenant]
	at := one.grant(sha256.Sum256(q.Token))
	if at < 0 {
		return api.Response{Err: api.ErrToken}, api.Change{}
	}
	rights := one.grants[at].Rights
	switch {
	case rights&[]int{0, 1, 2, 2, 4, 4, 4, 8}[q.Kind] == 0:
		return api.Response{Err: api.ErrRight}, api.Change{}
	case q.Kind == api.KindWrite:
		return api.Response{}, api.Change{Kind: api.ChangeWrite, Tenant: q.Tenant, Window: p.now / 60000, Writes: q.Writes}
	case q.Kind == api.KindRemove:
		return api.Response{}, api.Change{Kind: api.ChangeRemove, Tenant: q.Tenant}
	}
	return question(q, held(one.grants[at].Policy, one.series)), api.Change{}
}

func operators(q api.Request) (api.Response, api.Change) {
	c := api.Change{Tenant: q.Tenant}
	switch q.Kind {
	case api.KindMake:
		c.Kind, c.Series, c.Samples = api.ChangeMake, q.Series, q.Samples
		return api.Response{}, c
	case api.KindDrop:
		c.Kind = api.ChangeRemove
		return api.Response{}, c
	}
	if len(q.Bears) == 0 {
		return api.Response{Err: api.ErrArg}, api.Change{}
	}
	c.Digest = sha256.Sum256(q.Bears)
	c.Kind = api.ChangeRevoke
	if q.Kind == api.KindGrant {
		c.Kind, c.Grant = api.ChangeGrant, api.Grant{Digest: c.Digest, Rights: q.Rights, Policy: q.Matchers}
	}
	return api.Response{}, c
}

// held are the series that hold some matchers, by their labels.
func held(l []api.Matcher, all []api.Series) []api.Series {
	set, e := match.New(l)
	if e != api.OK {
		return nil
	}
	out := slices.DeleteFunc(slices.Clone(all), func(s api.Series) bool { return !set.Holds(s.Labels) })
	slices.SortFunc(out, func(a, b api.Series) int { return label.Cmp(a.Labels, b.Labels) })
	return out
}

// question is asked of the series that the policy shows alone.
func question(q api.Request, seen []api.Series) api.Response {
	if q.Kind == api.KindAsk {
		asked, err := ask.Parse(q.Question)
		var number api.Errno
		if errors.As(err, &number) {
			return api.Response{Err: number}
		}
		return api.Response{Kind: api.AnswerRows, Rows: ask.Run(asked, seen)}
	}
	if _, e := match.New(q.Matchers); e != api.OK {
		return api.Response{Err: e}
	}
	seen = held(q.Matchers, seen)
	names, values := map[string]int{}, map[string]int{}
	for _, s := range seen {
		for _, l := range s.Labels {
			names[l.Name]++
			if l.Name == q.Name {
				values[l.Value]++
			}
		}
	}
	switch q.Kind {
	case api.KindCount:
		return api.Response{Kind: api.AnswerNumber, Number: len(seen)}
	case api.KindNames:
		return api.Response{Kind: api.AnswerTexts, Texts: slices.Sorted(maps.Keys(names))}
	case api.KindValues:
		return api.Response{Kind: api.AnswerTexts, Texts: slices.Sorted(maps.Keys(values))}
	}
	if q.From > q.To {
		return api.Response{Err: api.ErrArg}
	}
	return api.Response{Kind: api.AnswerSeries, Series: during(seen, q.From, q.To)}
}

func during(l []api.Series, from, to int64) []api.Series {
	var out []api.Series
	for _, s := range l {
		s.Samples = slices.DeleteFunc(slices.Clone(s.Samples), func(x api.Sample) bool { return x.T < from || x.T > to })
		if len(s.Samples) > 0 {
			out = append(out, s)
		}
	}
	return out
}

// behind is all behind a change, or why there is no such thing (chapter 17).
func (p *plain) behind(c api.Change) (list, api.Errno) {
	one, known := p.tenants[c.Tenant]
	if !regexp.MustCompile(`^[a-z0-9-]{1,16}\z`).MatchString(c.Tenant) {
		return nil, api.ErrName
	}
	if !known && c.Kind != api.ChangeMake {
		return nil, api.ErrTenant
	}
	e := api.OK
	switch c.Kind {
	case api.ChangeMake:
		one.account = api.Account{MaxSeries: c.Series, MaxSamples: c.Samples}
		if min(c.Series, c.Samples) < 1 || max(c.Series, c.Samples) > 1000000 {
			e = api.ErrLimit
		} else if known {
			e = api.ErrKnown
		}
	case api.ChangeGrant:
		one, e = one.behindGrant(c.Grant)
	case api.ChangeRevoke:
		at := one.grant(c.Digest)
		if at < 0 {
			return nil, api.ErrToken
		}
		one.grants = slices.Delete(slices.Clone(one.grants), at, at+1)
	case api.ChangeWrite:
		one, e = one.behindWrite(c)
	}
	next := maps.Clone(p.tenants)
	next[c.Tenant] = one
	if c.Kind == api.ChangeRemove {
		delete(next, c.Tenant)
	}
	if e == api.OK && next.used() > p.slots {
		e = api.ErrPool
	}
	return next, e
}

// grant is where the grant for a digest stands; -1, if there is none.
func (one plainTenant) grant(digest [32]byte) int {
	return slices.IndexFunc(one.grants, func(g api.Grant) bool { return g.Digest == digest })
}

func (one plainTenant) behindGrant(g api.Grant) (plainTenant, api.Errno) {
	_, e := match.New(g.Policy)
	switch {
	case g.Rights < 1, g.Rights > 15:
		return one, api.ErrArg
	case e != api.OK:
		return one, e
	case one.grant(g.Digest) >= 0:
		return one, api.ErrKnown
	case len(one.grants) == 16:
		return one, api.ErrMany
	}
	one.grants = append(slices.Clone(one.grants), g)
	slices.SortFunc(one.grants, func(a, b api.Grant) int { return bytes.Compare(a.Digest[:], b.Digest[:]) })
	return one, api.OK
}

func (one plainTenant) behindWrite(c api.Change) (plainTenant, api.Errno) {
	if c.Window > one.account.Window {
		one.account.Window, one.account.Written = c.Window, 0
	}
	one.series = slices.Clone(one.series)
	stale := false
	for _, s := range c.Writes {
		if e := label.Right(s.Labels); e != api.OK {
			return one, e
		}
	}
	for _, s := range c.Writes {
		at := slices.IndexFunc(one.series, func(other api.Series) bool { return slices.Equal(other.Labels, s.Labels) })
		if at < 0 {
			at = len(one.series)
			one.series = append(one.series, api.Series{Labels: s.Labels})
		}
		row := slices.Concat(one.series[at].Samples, s.Samples)
		one.series[at].Samples = row
		one.account.Written += len(s.Samples)
		for i := 1; i < len(row); i++ {
			stale = stale || row[i].T <= row[i-1].T
		}
	}
	one.account.Series = len(one.series)
	switch {
	case stale:
		return one, api.ErrStale
	case one.account.Series > one.account.MaxSeries:
		return one, api.ErrSeries
	case one.account.Written > one.account.MaxSamples:
		return one, api.ErrQuota
	}
	return one, api.OK
}

func (l list) used() int {
	count := 0
	for _, one := range l {
		count += one.used()
	}
	return count
}

func (one plainTenant) used() int {
	count := 0
	for _, s := range one.series {
		count += len(chunksOf(s.Samples))
	}
	return count
}

// chunksOf: as many samples as go in, from the first that the chunk ahead did not take.
func chunksOf(l []api.Sample) [][]byte {
	var out [][]byte
	c := chunk.New(128)
	for _, s := range l {
		if !c.Append(s.T, s.V) {
			out = append(out, c.Bytes())
			c = chunk.New(128)
			c.Append(s.T, s.V)
		}
	}
	return append(out, c.Bytes())
}

func putUints(b []byte, l ...int) []byte {
	for _, n := range l {
		b = binary.AppendUvarint(b, uint64(n))
	}
	return b
}

func putText(b []byte, s string) []byte {
	return append(putUints(b, len(s)), s...)
}

// save is chapter 17's.
func (l list) save() []byte {
	b := putUints(nil, len(l))
	for _, name := range slices.Sorted(maps.Keys(l)) {
		one := l[name]
		a := one.account
		b = putUints(putText(b, name), a.MaxSeries, a.MaxSamples, int(a.Window), a.Written, len(one.grants))
		for _, g := range one.grants {
			b = putText(putUints(append(b, g.Digest[:]...), g.Rights), match.Print(g.Policy))
		}
		b = putUints(b, len(one.series))
		for _, s := range one.series {
			b = putUints(b, len(s.Labels))
			for _, x := range s.Labels {
				b = putText(putText(b, x.Name), x.Value)
			}
			chunks := chunksOf(s.Samples)
			b = putUints(b, len(chunks))
			for _, c := range chunks {
				b = putText(b, string(c))
			}
		}
	}
	return b
}
