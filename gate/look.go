package gate

import (
	"turnkey/api"
	"turnkey/match"
	"turnkey/sum"
	"turnkey/wire"
)

// visit is a request whose bearer may do what it wants.
type visit struct {
	api.Request
	window int64
	policy *match.Set // what the bearer may see; the operator has none, and asks no questions
}

// outcome is what comes of a visit.
type outcome struct {
	response api.Response
	change   []byte // nil: nothing is to be kept
}

// deed is what a kind of request wants of its bearer's rights (0 of the operator's), and what it does.
type deed struct {
	right int
	do    func(g *Gate, v visit) (outcome, error)
}

// deeds stand by the kinds that wire knows.
func deeds() []deed {
	return []deed{
		api.KindWrite:  {api.MayWrite, (*Gate).write},
		api.KindQuery:  {api.MayAsk, (*Gate).query},
		api.KindAsk:    {api.MayAsk, (*Gate).ask},
		api.KindCount:  {api.MayCount, (*Gate).count},
		api.KindNames:  {api.MayCount, (*Gate).names},
		api.KindValues: {api.MayCount, (*Gate).values},
		api.KindRemove: {api.MayRemove, (*Gate).remove},
		api.KindMake:   {0, (*Gate).makeTenant},
		api.KindDrop:   {0, (*Gate).remove},
		api.KindGrant:  {0, (*Gate).grant},
		api.KindRevoke: {0, (*Gate).revoke},
	}
}

// look asks what came, who bears it, what they may, and what they want; an error is the first refusal.
func (g *Gate) look(raw []byte, window int64) (outcome, error) {
	q, err := wire.Decode(raw)
	if err := refused(err); err != nil {
		return outcome{}, err
	}
	d := deeds()[q.Kind]
	policy, err := g.letIn(q, d.right)
	if err != nil {
		return outcome{}, err
	}
	return d.do(g, visit{Request: q, window: window, policy: policy})
}

// letIn tells what the bearer of a request may see.
func (g *Gate) letIn(q api.Request, right int) (*match.Set, error) {
	if q.Kind >= api.KindMake {
		return nil, g.letInOperator(q.Token)
	}
	grant, e := g.all.Who(q.Tenant, q.Token)
	if err := refused(e); err != nil {
		return nil, err
	}
	if grant.Rights&right == 0 {
		return nil, refused(api.ErrRight)
	}
	policy, e := match.New(grant.Policy)
	return policy, refused(e)
}

func (g *Gate) letInOperator(token []byte) error {
	if sum.Of(token) != g.operator {
		return refused(api.ErrToken)
	}
	return nil
}
