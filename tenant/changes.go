package tenant

import (
	"turnkey/api"
	"turnkey/token"
)

func (w *whole) refusalOfMake(c api.Change) api.Errno {
	return w.limitsApart(c.Tenant).Set(c.Tenant, c.Series, c.Samples)
}

func (w *whole) growthOfMake(c api.Change) int {
	a := api.Account{MaxSeries: c.Series, MaxSamples: c.Samples}
	return len(head(c.Tenant, a, token.New().Save(c.Tenant)))
}

func (w *whole) doMake(c api.Change) {
	w.Set(c.Tenant, c.Series, c.Samples)
	w.names[c.Tenant] = struct{}{}
}

// refusalOfRemove: each tenant that is there may be removed.
func (w *whole) refusalOfRemove(api.Change) api.Errno {
	return api.OK
}

func (w *whole) growthOfRemove(c api.Change) int {
	return -len(w.saved(c.Tenant))
}

func (w *whole) doRemove(c api.Change) {
	w.Book.Drop(c.Tenant)
	w.Table.Drop(c.Tenant)
	w.index.Drop(c.Tenant)
	w.store.Drop(c.Tenant)
	delete(w.names, c.Tenant)
}

func (w *whole) refusalOfGrant(c api.Change) api.Errno {
	return w.tokensApart(c.Tenant).Grant(c.Tenant, c.Grant)
}

func (w *whole) growthOfGrant(c api.Change) int {
	apart := w.tokensApart(c.Tenant)
	apart.Grant(c.Tenant, c.Grant)
	return len(apart.Save(c.Tenant)) - len(w.Save(c.Tenant))
}

func (w *whole) doGrant(c api.Change) {
	w.Grant(c.Tenant, c.Grant)
}

func (w *whole) refusalOfRevoke(c api.Change) api.Errno {
	return w.tokensApart(c.Tenant).Revoke(c.Tenant, c.Digest)
}

func (w *whole) growthOfRevoke(c api.Change) int {
	apart := w.tokensApart(c.Tenant)
	apart.Revoke(c.Tenant, c.Digest)
	return len(apart.Save(c.Tenant)) - len(w.Save(c.Tenant))
}

func (w *whole) doRevoke(c api.Change) {
	w.Revoke(c.Tenant, c.Digest)
}
