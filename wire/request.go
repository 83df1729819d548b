package wire

import "turnkey/api"

// The places of a request's fields among its parts.
const (
	fieldTenant = iota
	fieldToken
	fieldWrites
	fieldMatchers
	fieldFrom
	fieldTo
	fieldQuestion
	fieldName
	fieldSeries
	fieldSamples
	fieldRights
	fieldBears
)

// fieldsOf is what a kind of request uses, in the order of its bytes; false: there is no such kind.
func fieldsOf(kind int) ([]int, bool) {
	switch kind {
	case api.KindWrite:
		return []int{fieldTenant, fieldToken, fieldWrites}, true
	case api.KindQuery:
		return []int{fieldTenant, fieldToken, fieldMatchers, fieldFrom, fieldTo}, true
	case api.KindAsk:
		return []int{fieldTenant, fieldToken, fieldQuestion}, true
	case api.KindCount, api.KindNames:
		return []int{fieldTenant, fieldToken, fieldMatchers}, true
	case api.KindValues:
		return []int{fieldTenant, fieldToken, fieldMatchers, fieldName}, true
	case api.KindRemove, api.KindDrop:
		return []int{fieldTenant, fieldToken}, true
	case api.KindMake:
		return []int{fieldTenant, fieldToken, fieldSeries, fieldSamples}, true
	case api.KindGrant:
		return []int{fieldTenant, fieldToken, fieldBears, fieldRights, fieldMatchers}, true
	case api.KindRevoke:
		return []int{fieldTenant, fieldToken, fieldBears}, true
	}
	return nil, false
}

func requestParts(q *api.Request) []part {
	return []part{
		fieldTenant:   {q.Tenant == "", func(w *writer) { w.text(q.Tenant) }, func(r *reader) { q.Tenant = r.text() }},
		fieldToken:    {len(q.Token) == 0, func(w *writer) { w.token(q.Token) }, func(r *reader) { q.Token = r.token() }},
		fieldWrites:   {len(q.Writes) == 0, func(w *writer) { w.writes(q.Writes) }, func(r *reader) { q.Writes = r.writes() }},
		fieldMatchers: {len(q.Matchers) == 0, func(w *writer) { w.matchers(q.Matchers) }, func(r *reader) { q.Matchers = r.matchers() }},
		fieldFrom:     {q.From == 0, func(w *writer) { w.time(q.From) }, func(r *reader) { q.From = r.time() }},
		fieldTo:       {q.To == 0, func(w *writer) { w.time(q.To) }, func(r *reader) { q.To = r.time() }},
		fieldQuestion: {q.Question == "", func(w *writer) { w.question(q.Question) }, func(r *reader) { q.Question = r.question() }},
		fieldName:     {q.Name == "", func(w *writer) { w.text(q.Name) }, func(r *reader) { q.Name = r.text() }},
		fieldSeries:   {q.Series == 0, func(w *writer) { w.amount(q.Series) }, func(r *reader) { q.Series = r.amount() }},
		fieldSamples:  {q.Samples == 0, func(w *writer) { w.amount(q.Samples) }, func(r *reader) { q.Samples = r.amount() }},
		fieldRights:   {q.Rights == 0, func(w *writer) { w.amount(q.Rights) }, func(r *reader) { q.Rights = r.amount() }},
		fieldBears:    {len(q.Bears) == 0, func(w *writer) { w.token(q.Bears) }, func(r *reader) { q.Bears = r.token() }},
	}
}

func (w *writer) request(q api.Request) {
	used, known := fieldsOf(q.Kind)
	w.must(known)
	w.octet(byte(q.Kind))
	w.parts(requestParts(&q), used)
}

func (r *reader) request() api.Request {
	var q api.Request
	q.Kind = int(r.octet())
	used, known := fieldsOf(q.Kind)
	r.must(known)
	r.parts(requestParts(&q), used)
	return q
}

// areWrites holds for the series of a write, beside what holds for those of an answer.
func areWrites(l []api.Series) bool {
	all := 0
	for _, s := range l {
		if len(s.Samples) == 0 {
			return false
		}
		all += len(s.Samples)
	}
	return len(l) >= 1 && len(l) <= api.MaxWrites && all <= api.MaxSamples
}
