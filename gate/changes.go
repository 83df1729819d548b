package gate

import (
	"turnkey/api"
	"turnkey/sum"
)

func (g *Gate) write(v visit) (outcome, error) {
	return g.kept(api.Change{Kind: api.ChangeWrite, Tenant: v.Tenant, Window: v.window, Writes: v.Writes})
}

func (g *Gate) remove(v visit) (outcome, error) {
	return g.kept(api.Change{Kind: api.ChangeRemove, Tenant: v.Tenant})
}

func (g *Gate) makeTenant(v visit) (outcome, error) {
	return g.kept(api.Change{Kind: api.ChangeMake, Tenant: v.Tenant, Series: v.Series, Samples: v.Samples})
}

func (g *Gate) grant(v visit) (outcome, error) {
	// Nobody could bear it: who asks by no bytes is refused whatever was granted.
	if len(v.Bears) == 0 {
		return outcome{}, refused(api.ErrArg)
	}
	grant := api.Grant{Digest: sum.Of(v.Bears), Rights: v.Rights, Policy: v.Matchers}
	return g.kept(api.Change{Kind: api.ChangeGrant, Tenant: v.Tenant, Grant: grant})
}

func (g *Gate) revoke(v visit) (outcome, error) {
	if len(v.Bears) == 0 {
		return outcome{}, refused(api.ErrArg)
	}
	return g.kept(api.Change{Kind: api.ChangeRevoke, Tenant: v.Tenant, Digest: sum.Of(v.Bears)})
}

// kept is the outcome of a change that may be made: it is not made here.
func (g *Gate) kept(c api.Change) (outcome, error) {
	if err := refused(g.all.Check(c)); err != nil {
		return outcome{}, err
	}
	b, e := Pack(c)
	return outcome{response: api.Response{Kind: api.AnswerDone}, change: b}, refused(e)
}
