package tenant

import (
	"turnkey/api"
	"turnkey/num"
)

// read takes in what Save tells, where nobody is; false: b is no such bytes, and what there is then is to be thrown away.
func (w *whole) read(b []byte) bool {
	r := &reader{rest: b}
	count := r.number()
	w.bytes = len(r.rest)
	last := ""
	for range count {
		name := string(r.piece())
		// No name is empty, so that the first one stands behind the last one, too.
		if r.broken || !isName(name) || name <= last || !w.readTenant(name, r) {
			return false
		}
		last = name
	}
	return !r.broken && len(r.rest) == 0
}

func (w *whole) readTenant(name string, r *reader) bool {
	// A number that is too great for its field is below 0 there, where none may be.
	var a api.Account
	a.MaxSeries = int(r.number())
	a.MaxSamples = int(r.number())
	a.Window = int64(r.number())
	a.Written = int(r.number())
	size, _ := w.Load(name, r.rest)
	r.cut(size)
	a.Series = int(r.number())
	if r.broken || w.Put(name, a) != api.OK {
		return false
	}
	w.names[name] = struct{}{}
	for range a.Series {
		if !w.readSeries(name, r) {
			return false
		}
	}
	return true
}

func (w *whole) readSeries(tenant string, r *reader) bool {
	labels := r.labels()
	chunks := r.chunks()
	if r.broken {
		return false
	}
	id, fresh, _ := w.index.Add(tenant, labels)
	return fresh && w.store.Lay(tenant, id, chunks) == api.OK
}

// reader goes through bytes; once broken, by a thing that does not stand there, it tells noughts and nothing.
type reader struct {
	rest   []byte
	broken bool
}

// cut takes off what was read; of a size of 0 nothing was.
func (r *reader) cut(size int) {
	r.rest = r.rest[size:]
	if size == 0 {
		r.rest, r.broken = nil, true
	}
}

func (r *reader) number() uint64 {
	n, size := num.Uint(r.rest)
	r.cut(size)
	return n
}

func (r *reader) piece() []byte {
	b, size := num.Bytes(r.rest, len(r.rest))
	r.cut(size)
	return b
}

func (r *reader) labels() []api.Label {
	var out []api.Label
	for count := r.number(); count > 0 && !r.broken; count-- {
		name := string(r.piece())
		out = append(out, api.Label{Name: name, Value: string(r.piece())})
	}
	return out
}

func (r *reader) chunks() [][]byte {
	var out [][]byte
	for count := r.number(); count > 0 && !r.broken; count-- {
		out = append(out, r.piece())
	}
	return out
}
