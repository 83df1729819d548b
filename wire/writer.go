package wire

import (
	"math"

	"turnkey/api"
	"turnkey/chunk"
	"turnkey/num"
)

const (
	mostLabels = 16        // in what is sent: whether so many may be is asked elsewhere
	mostAmount = 1<<40 - 1 // of limits and rights
	mostErrno  = 999
	unbounded  = math.MaxUint64
)

// writer puts things one behind the other. Behind what does not fit any more nothing is put, but all is looked at still:
// what may not be weighs more than what is too long.
type writer struct {
	out   []byte
	most  int
	over  bool // there would be more bytes than most
	wrong bool // something may not be
}

func (w *writer) must(ok bool) {
	if !ok {
		w.wrong = true
	}
}

func (w *writer) put(b []byte) {
	if len(b) > w.most-len(w.out) {
		w.over = true
	}
	if !w.over {
		w.out = append(w.out, b...)
	}
}

func (w *writer) octet(b byte) {
	w.put([]byte{b})
}

// number stands by itself ahead of being put: behind all that was written so far it would copy that each time.
func (w *writer) number(n uint64, most uint64) {
	w.must(n <= most)
	w.put(num.PutUint(nil, n))
}

func (w *writer) time(t int64) {
	w.put(num.PutInt(nil, t))
}

// amount, as count: a number below 0 that is made one without a sign is far above most.
func (w *writer) amount(n int) {
	w.number(uint64(n), mostAmount)
}

func (w *writer) count(n int) {
	w.number(uint64(n), math.MaxInt)
}

func (w *writer) text(s string) {
	w.limited(s, api.MaxText)
}

func (w *writer) question(s string) {
	w.limited(s, api.MaxQuestion)
}

func (w *writer) token(b []byte) {
	w.limited(string(b), api.MaxToken)
}

func (w *writer) limited(s string, most int) {
	if len(s) > most {
		w.wrong = true
		return
	}
	w.put(num.PutBytes(nil, []byte(s)))
}

// samples may be any, so that none is looked at where none fits.
func (w *writer) samples(l []api.Sample) {
	if w.over {
		return
	}
	c := chunk.New(w.most - len(w.out))
	for _, s := range l {
		if !c.Append(s.T, s.V) {
			w.over = true
			return
		}
	}
	w.put(num.PutBytes(nil, c.Bytes()))
}

func (w *writer) labels(l []api.Label) {
	putEach(w, l, mostLabels, w.label)
}

func (w *writer) label(l api.Label) {
	w.text(l.Name)
	w.text(l.Value)
}

func (w *writer) matchers(l []api.Matcher) {
	putEach(w, l, api.MaxMatchers, w.matcher)
}

func (w *writer) matcher(m api.Matcher) {
	w.text(m.Name)
	w.must(isOp(m.Op))
	w.octet(byte(m.Op))
	w.text(m.Text)
}

func (w *writer) writes(l []api.Series) {
	if !areWrites(l) {
		w.wrong = true
		return
	}
	w.series(l)
}

func (w *writer) series(l []api.Series) {
	putEach(w, l, unbounded, w.oneSeries)
}

func (w *writer) oneSeries(s api.Series) {
	w.labels(s.Labels)
	w.samples(s.Samples)
}

func (w *writer) rows(l []api.Row) {
	putEach(w, l, unbounded, w.row)
}

func (w *writer) row(l api.Row) {
	w.labels(l.Labels)
	w.number(l.N, unbounded)
}

func (w *writer) texts(l []string) {
	putEach(w, l, unbounded, w.text)
}

// putEach writes how many there are, and each of them by one.
func putEach[T any](w *writer, l []T, most uint64, one func(T)) {
	w.number(uint64(len(l)), most)
	for _, item := range l {
		if w.wrong {
			return
		}
		one(item)
	}
}

func isOp(op int) bool {
	return op >= api.OpIs && op <= api.OpUnlike
}
