package gate

import (
	"math"

	"turnkey/api"
	"turnkey/match"
	"turnkey/num"
)

// Unpack reads it (T4).
func Unpack(b []byte) (api.Change, api.Errno) {
	r := &reader{rest: b}
	c := r.change()
	if r.broken || len(r.rest) > 0 {
		return api.Change{}, api.ErrWire
	}
	return c, api.OK
}

// reader goes through bytes; once broken, by a thing that may not stand there, it tells noughts and nothing.
type reader struct {
	rest   []byte
	broken bool
}

func (r *reader) change() api.Change {
	var c api.Change
	c.Kind = int(r.octet())
	c.Tenant = r.text(api.MaxText)
	switch c.Kind {
	case api.ChangeMake:
		c.Series = int(r.number(math.MaxInt))
		c.Samples = int(r.number(math.MaxInt))
	case api.ChangeRemove:
	case api.ChangeGrant:
		c.Grant.Digest = r.digest()
		c.Grant.Rights = int(r.number(math.MaxInt))
		c.Grant.Policy = r.policy()
	case api.ChangeRevoke:
		c.Digest = r.digest()
	case api.ChangeWrite:
		c.Window = int64(r.number(math.MaxInt64))
		c.Writes = each(r, r.series)
	default:
		r.must(false)
	}
	return c
}

func (r *reader) must(ok bool) {
	if !ok {
		r.rest, r.broken = nil, true
	}
}

// cut takes off what was read; of a size of 0 nothing was.
func (r *reader) cut(size int) {
	r.rest = r.rest[size:]
	r.must(size > 0)
}

func (r *reader) octet() byte {
	r.must(len(r.rest) > 0)
	if r.broken {
		return 0
	}
	b := r.rest[0]
	r.cut(1)
	return b
}

func (r *reader) number(most uint64) uint64 {
	n, size := num.Uint(r.rest)
	r.cut(size)
	r.must(n <= most)
	if r.broken {
		return 0
	}
	return n
}

func (r *reader) time() int64 {
	t, size := num.Int(r.rest)
	r.cut(size)
	return t
}

func (r *reader) text(most int) string {
	b, size := num.Bytes(r.rest, most)
	r.cut(size)
	return string(b)
}

func (r *reader) digest() [32]byte {
	var d [32]byte
	r.must(len(r.rest) >= len(d))
	if !r.broken {
		r.cut(copy(d[:], r.rest))
	}
	return d
}

// policy: matchers have many texts, of which one alone is packed.
func (r *reader) policy() []api.Matcher {
	text := r.text(len(r.rest))
	l, err := match.Parse(text)
	r.must(err == nil && match.Print(l) == text)
	return l
}

func (r *reader) series() api.Series {
	labels := each(r, r.label)
	return api.Series{Labels: labels, Samples: each(r, r.sample)}
}

func (r *reader) label() api.Label {
	name := r.text(len(r.rest))
	return api.Label{Name: name, Value: r.text(len(r.rest))}
}

func (r *reader) sample() api.Sample {
	t := r.time()
	return api.Sample{T: t, V: r.number(math.MaxUint64)}
}

// each reads how many there are, and each of them by one. A count may be far above what the bytes could tell.
func each[T any](r *reader, one func() T) []T {
	var out []T
	for range r.number(math.MaxInt) {
		item := one()
		if r.broken {
			return nil
		}
		out = append(out, item)
	}
	return out
}
