package wire

import "turnkey/api"

// The places of a response's fields among its parts.
const (
	fieldListed = iota // its series
	fieldRows
	fieldNumber
	fieldTexts
)

// fieldsOfAnswer is what a kind of response uses; false: there is no such kind.
func fieldsOfAnswer(kind int) ([]int, bool) {
	switch kind {
	case api.AnswerDone:
		return nil, true
	case api.AnswerSeries:
		return []int{fieldListed}, true
	case api.AnswerRows:
		return []int{fieldRows}, true
	case api.AnswerNumber:
		return []int{fieldNumber}, true
	case api.AnswerTexts:
		return []int{fieldTexts}, true
	}
	return nil, false
}

func responseParts(a *api.Response) []part {
	return []part{
		fieldListed: {len(a.Series) == 0, func(w *writer) { w.series(a.Series) }, func(r *reader) { a.Series = r.series() }},
		fieldRows:   {len(a.Rows) == 0, func(w *writer) { w.rows(a.Rows) }, func(r *reader) { a.Rows = r.rows() }},
		fieldNumber: {a.Number == 0, func(w *writer) { w.count(a.Number) }, func(r *reader) { a.Number = r.count() }},
		fieldTexts:  {len(a.Texts) == 0, func(w *writer) { w.texts(a.Texts) }, func(r *reader) { a.Texts = r.texts() }},
	}
}

func (w *writer) response(a api.Response) {
	// A number below 0 that is made one without a sign is far above them all.
	w.number(uint64(a.Err), mostErrno)
	if a.Err != api.OK {
		w.must(a.Kind == 0)
		w.parts(responseParts(&a), nil)
		return
	}
	used, known := fieldsOfAnswer(a.Kind)
	w.must(known)
	w.octet(byte(a.Kind))
	w.parts(responseParts(&a), used)
}

func (r *reader) response() api.Response {
	var a api.Response
	a.Err = api.Errno(r.number(mostErrno))
	if a.Err != api.OK {
		return a
	}
	a.Kind = int(r.octet())
	used, known := fieldsOfAnswer(a.Kind)
	r.must(known)
	r.parts(responseParts(&a), used)
	return a
}
