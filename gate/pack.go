package gate

import (
	"turnkey/api"
	"turnkey/match"
	"turnkey/num"
)

// Pack writes a change as bytes (T4).
func Pack(c api.Change) ([]byte, api.Errno) {
	w := &writer{}
	w.change(c)
	if w.wrong {
		return nil, api.ErrArg
	}
	return w.out, api.OK
}

// writer puts things one behind the other.
type writer struct {
	out   []byte
	wrong bool // something may not be
}

func (w *writer) change(c api.Change) {
	w.put([]byte{byte(c.Kind)})
	w.must(len(c.Tenant) <= api.MaxText)
	w.text(c.Tenant)
	switch c.Kind {
	case api.ChangeMake:
		w.number(int64(c.Series))
		w.number(int64(c.Samples))
	case api.ChangeRemove:
	case api.ChangeGrant:
		w.put(c.Grant.Digest[:])
		w.number(int64(c.Grant.Rights))
		w.policy(c.Grant.Policy)
	case api.ChangeRevoke:
		w.put(c.Digest[:])
	case api.ChangeWrite:
		w.number(c.Window)
		w.writes(c.Writes)
	default:
		w.must(false)
	}
}

func (w *writer) must(ok bool) {
	if !ok {
		w.wrong = true
	}
}

// put takes what stands by itself: num would copy, each time, all that was written so far.
func (w *writer) put(b []byte) {
	w.out = append(w.out, b...)
}

func (w *writer) number(n int64) {
	w.must(n >= 0)
	w.put(num.PutUint(nil, uint64(n)))
}

func (w *writer) text(s string) {
	w.put(num.PutBytes(nil, []byte(s)))
}

func (w *writer) policy(l []api.Matcher) {
	_, e := match.New(l)
	w.must(e == api.OK)
	w.text(match.Print(l))
}

func (w *writer) writes(l []api.Series) {
	w.number(int64(len(l)))
	for _, s := range l {
		w.labels(s.Labels)
		w.samples(s.Samples)
	}
}

func (w *writer) labels(l []api.Label) {
	w.number(int64(len(l)))
	for _, one := range l {
		w.text(one.Name)
		w.text(one.Value)
	}
}

func (w *writer) samples(l []api.Sample) {
	w.number(int64(len(l)))
	for _, one := range l {
		w.put(num.PutInt(nil, one.T))
		w.put(num.PutUint(nil, one.V))
	}
}
