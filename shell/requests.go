package shell

import "turnkey/api"

// requests are the commands that ask something of the stack: by each what is asked.
func requests() map[string]func(s *Shell, w *words) api.Request {
	return map[string]func(s *Shell, w *words) api.Request{
		"make":   (*Shell).makeTenant,
		"drop":   (*Shell).drop,
		"grant":  (*Shell).grant,
		"revoke": (*Shell).revoke,
		"write":  (*Shell).write,
		"query":  (*Shell).query,
		"ask":    (*Shell).ask,
		"count":  (*Shell).count,
		"names":  (*Shell).names,
		"values": (*Shell).values,
		"remove": (*Shell).remove,
	}
}

// ofOperator begins what the operator asks: with the tenant, whom the first word names.
func (s *Shell) ofOperator(kind int, w *words) api.Request {
	return api.Request{Kind: kind, Tenant: w.word(), Token: s.operator}
}

func (s *Shell) makeTenant(w *words) api.Request {
	q := s.ofOperator(api.KindMake, w)
	q.Series = w.amount()
	q.Samples = w.amount()
	return q
}

func (s *Shell) drop(w *words) api.Request {
	return s.ofOperator(api.KindDrop, w)
}

func (s *Shell) grant(w *words) api.Request {
	q := s.ofOperator(api.KindGrant, w)
	q.Bears = []byte(w.word())
	q.Rights = w.amount()
	q.Matchers = w.matchers()
	return q
}

func (s *Shell) revoke(w *words) api.Request {
	q := s.ofOperator(api.KindRevoke, w)
	q.Bears = []byte(w.word())
	return q
}

// ofBearer begins what all others ask: with the tenant, and the token.
func ofBearer(kind int, w *words) api.Request {
	q := api.Request{Kind: kind, Tenant: w.word()}
	q.Token = []byte(w.word())
	return q
}

func (s *Shell) write(w *words) api.Request {
	q := ofBearer(api.KindWrite, w)
	var one api.Series
	// However many there are said to be, no room is made for more than stand there.
	count := w.number()
	must(count >= 1)
	for range count {
		t := w.number()
		one.Samples = append(one.Samples, api.Sample{T: t, V: w.bits()})
	}
	one.Labels = w.labels()
	q.Writes = []api.Series{one}
	return q
}

func (s *Shell) query(w *words) api.Request {
	q := ofBearer(api.KindQuery, w)
	q.From = w.number()
	q.To = w.number()
	q.Matchers = w.matchers()
	return q
}

func (s *Shell) ask(w *words) api.Request {
	q := ofBearer(api.KindAsk, w)
	q.Question = w.rest()
	return q
}

func (s *Shell) count(w *words) api.Request {
	q := ofBearer(api.KindCount, w)
	q.Matchers = w.matchers()
	return q
}

func (s *Shell) names(w *words) api.Request {
	q := ofBearer(api.KindNames, w)
	q.Matchers = w.matchers()
	return q
}

func (s *Shell) values(w *words) api.Request {
	q := ofBearer(api.KindValues, w)
	q.Name = w.word()
	q.Matchers = w.matchers()
	return q
}

func (s *Shell) remove(w *words) api.Request {
	return ofBearer(api.KindRemove, w)
}
