package gate

import (
	"turnkey/api"
	"turnkey/ask"
	"turnkey/match"
)

func (g *Gate) query(v visit) (outcome, error) {
	set, err := v.asked()
	if err != nil {
		return outcome{}, err
	}
	if v.From > v.To {
		return outcome{}, refused(api.ErrArg)
	}
	l := g.all.Select(v.Tenant, set, v.From, v.To)
	return told(api.Response{Kind: api.AnswerSeries, Series: l})
}

func (g *Gate) ask(v visit) (outcome, error) {
	q, err := ask.Parse(v.Question)
	if err := refused(err); err != nil {
		return outcome{}, err
	}
	from, to := q.Span()
	l := g.all.Select(v.Tenant, v.within(q.Set()), from, to)
	return told(api.Response{Kind: api.AnswerRows, Rows: ask.Run(q, l)})
}

func (g *Gate) count(v visit) (outcome, error) {
	set, err := v.asked()
	if err != nil {
		return outcome{}, err
	}
	return told(api.Response{Kind: api.AnswerNumber, Number: g.all.Count(v.Tenant, set)})
}

func (g *Gate) names(v visit) (outcome, error) {
	set, err := v.asked()
	if err != nil {
		return outcome{}, err
	}
	return told(api.Response{Kind: api.AnswerTexts, Texts: g.all.Names(v.Tenant, set)})
}

func (g *Gate) values(v visit) (outcome, error) {
	set, err := v.asked()
	if err != nil {
		return outcome{}, err
	}
	return told(api.Response{Kind: api.AnswerTexts, Texts: g.all.Values(v.Tenant, set, v.Name)})
}

// asked is the request's matchers, within what its bearer may see.
func (v visit) asked() (*match.Set, error) {
	set, e := match.New(v.Matchers)
	if err := refused(e); err != nil {
		return nil, err
	}
	return v.within(set), nil
}

// within is the one way in which a question comes by its matchers, so that none goes by the policy.
func (v visit) within(asked *match.Set) *match.Set {
	return match.And(v.policy, asked)
}

// told is the outcome of a question: nothing is to be kept.
func told(r api.Response) (outcome, error) {
	return outcome{response: r}, nil
}
