package tenant

import (
	"turnkey/api"
	"turnkey/index"
	"turnkey/pool"
	"turnkey/quota"
	"turnkey/series"
	"turnkey/token"
)

// whole is all that is known of all tenants, each thing by the tenant's name.
type whole struct {
	*quota.Book  // who is there is known here
	*token.Table // who may ask what
	index        *index.Index
	store        *series.Store
	pool         *pool.Pool          // that the store is over
	names        map[string]struct{} // of those who are there: a book does not tell them
	bytes        int                 // that Save has of all tenants; to count them anew for each change were to go through all there is
}

func newWhole(p *pool.Pool) *whole {
	return &whole{
		Book:  quota.New(),
		Table: token.New(),
		index: index.New(),
		store: series.New(p),
		pool:  p,
		names: map[string]struct{}{},
	}
}

// deed is what a change comes to.
type deed struct {
	tenants int                            // how many more there are behind it
	refusal func(c api.Change) api.Errno   // of what its kind alone is asked
	growth  func(c api.Change) (bytes int) // by which what Save has of all tenants grows
	do      func(c api.Change)
}

// look is the deed of a change that may be made, or the reason why it may not.
func (w *whole) look(c api.Change) (deed, api.Errno) {
	d, ok := w.deedOf(c.Kind)
	if !ok {
		return deed{}, api.ErrArg
	}
	if !isName(c.Tenant) {
		return deed{}, api.ErrName
	}
	if _, there := w.Get(c.Tenant); !there && c.Kind != api.ChangeMake {
		return deed{}, api.ErrTenant
	}
	if e := d.refusal(c); e != api.OK {
		return deed{}, e
	}
	return d, api.OK
}

// deedOf is false of a kind that is none.
func (w *whole) deedOf(kind int) (deed, bool) {
	switch kind {
	case api.ChangeMake:
		return deed{tenants: 1, refusal: w.refusalOfMake, growth: w.growthOfMake, do: w.doMake}, true
	case api.ChangeRemove:
		return deed{tenants: -1, refusal: w.refusalOfRemove, growth: w.growthOfRemove, do: w.doRemove}, true
	case api.ChangeGrant:
		return deed{refusal: w.refusalOfGrant, growth: w.growthOfGrant, do: w.doGrant}, true
	case api.ChangeRevoke:
		return deed{refusal: w.refusalOfRevoke, growth: w.growthOfRevoke, do: w.doRevoke}, true
	case api.ChangeWrite:
		return deed{refusal: w.refusalOfWrite, growth: w.growthOfWrite, do: w.doWrite}, true
	}
	return deed{}, false
}

func isName(s string) bool {
	for i := range len(s) {
		if !isNameByte(s[i]) {
			return false
		}
	}
	return s != "" && len(s) <= api.MaxTenant
}

func isNameByte(c byte) bool {
	return 'a' <= c && c <= 'z' || '0' <= c && c <= '9' || c == '-'
}

// limitsApart is a book of one tenant alone: what is tried there changes nothing here.
func (w *whole) limitsApart(tenant string) *quota.Book {
	apart := quota.New()
	if a, there := w.Get(tenant); there {
		apart.Put(tenant, a)
	}
	return apart
}

// tokensApart likewise.
func (w *whole) tokensApart(tenant string) *token.Table {
	apart := token.New()
	apart.Load(tenant, w.Save(tenant))
	return apart
}
