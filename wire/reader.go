package wire

import (
	"math"

	"turnkey/api"
	"turnkey/chunk"
	"turnkey/num"
)

// reader goes through bytes; once broken, by a thing that may not stand there, it tells noughts and nothing.
type reader struct {
	rest   []byte
	broken bool
}

func (r *reader) must(ok bool) {
	if !ok {
		r.rest, r.broken = nil, true
	}
}

// done tells whether all was read, and all of it may be.
func (r *reader) done() bool {
	return !r.broken && len(r.rest) == 0
}

// cut takes off the first n bytes. A piece has no spare room: else who writes there, as they may in what is theirs,
// would write into the pieces behind it.
func (r *reader) cut(n uint64) []byte {
	r.must(n <= uint64(len(r.rest)))
	if r.broken {
		return nil
	}
	piece := r.rest[:n:n]
	r.rest = r.rest[n:]
	return piece
}

func (r *reader) octet() byte {
	piece := r.cut(1)
	if r.broken {
		return 0
	}
	return piece[0]
}

func (r *reader) number(most uint64) uint64 {
	n, size := num.Uint(r.rest)
	r.must(size > 0 && n <= most)
	if r.broken {
		return 0
	}
	r.cut(uint64(size))
	return n
}

func (r *reader) time() int64 {
	t, size := num.Int(r.rest)
	r.must(size > 0)
	r.cut(uint64(size))
	return t
}

func (r *reader) amount() int {
	return int(r.number(mostAmount))
}

func (r *reader) count() int {
	return int(r.number(math.MaxInt))
}

func (r *reader) text() string {
	return string(r.limited(api.MaxText))
}

func (r *reader) question() string {
	return string(r.limited(api.MaxQuestion))
}

func (r *reader) token() []byte {
	return r.limited(api.MaxToken)
}

func (r *reader) limited(most uint64) []byte {
	return r.cut(r.number(most))
}

func (r *reader) samples() []api.Sample {
	l, e := chunk.Read(r.limited(unbounded))
	r.must(e == api.OK)
	return l
}

func (r *reader) labels() []api.Label {
	return takeEach(r, mostLabels, r.label)
}

func (r *reader) label() api.Label {
	name := r.text()
	return api.Label{Name: name, Value: r.text()}
}

func (r *reader) matchers() []api.Matcher {
	return takeEach(r, api.MaxMatchers, r.matcher)
}

func (r *reader) matcher() api.Matcher {
	name := r.text()
	op := int(r.octet())
	r.must(isOp(op))
	return api.Matcher{Name: name, Op: op, Text: r.text()}
}

func (r *reader) writes() []api.Series {
	l := r.series()
	r.must(areWrites(l))
	return l
}

func (r *reader) series() []api.Series {
	return takeEach(r, unbounded, r.oneSeries)
}

func (r *reader) oneSeries() api.Series {
	labels := r.labels()
	return api.Series{Labels: labels, Samples: r.samples()}
}

func (r *reader) rows() []api.Row {
	return takeEach(r, unbounded, r.row)
}

func (r *reader) row() api.Row {
	labels := r.labels()
	return api.Row{Labels: labels, N: r.number(unbounded)}
}

func (r *reader) texts() []string {
	return takeEach(r, unbounded, r.text)
}

// takeEach reads how many there are, and each of them by one. A count may be far above what the bytes could tell.
func takeEach[T any](r *reader, most uint64, one func() T) []T {
	var out []T
	for range r.number(most) {
		item := one()
		if r.broken {
			return nil
		}
		out = append(out, item)
	}
	return out
}
