package tenant

import (
	"turnkey/api"
	"turnkey/index"
	"turnkey/label"
	"turnkey/pool"
	"turnkey/quota"
	"turnkey/series"
)

const maxWindow = api.MaxNow / api.WindowSize

// row is all samples of a write under one set of labels.
type row struct {
	labels  []api.Label
	id      int  // of a new series the number that it will have
	fresh   bool // the tenant has not got this series yet
	samples []api.Sample
}

func (w *whole) refusalOfWrite(c api.Change) api.Errno {
	if !isWrite(c) {
		return api.ErrArg
	}
	for _, one := range c.Writes {
		if e := label.Right(one.Labels); e != api.OK {
			return e
		}
	}
	rows := w.rowsOf(c)
	slots, e := w.slotsFor(c.Tenant, rows)
	if e != api.OK {
		return e
	}
	if e := takeAll(w.limitsApart(c.Tenant), c, rows); e != api.OK {
		return e
	}
	if slots > w.pool.Left() {
		return api.ErrPool
	}
	return api.OK
}

// isWrite tells whether a write's window and its counts may be.
func isWrite(c api.Change) bool {
	if c.Window < 0 || c.Window > maxWindow || len(c.Writes) == 0 || len(c.Writes) > api.MaxWrites {
		return false
	}
	for _, one := range c.Writes {
		if len(one.Samples) == 0 {
			return false
		}
	}
	return samplesIn(c) <= api.MaxSamples
}

func samplesIn(c api.Change) int {
	count := 0
	for _, one := range c.Writes {
		count += len(one.Samples)
	}
	return count
}

// rowsOf are the rows of a write whose labels are right, as they come first.
func (w *whole) rowsOf(c api.Change) []row {
	var out []row
	next := w.index.Len(c.Tenant)
	// An index of the write alone gives its rows their numbers, as that of all does.
	apart := index.New()
	for _, one := range c.Writes {
		at, first, _ := apart.Add(c.Tenant, one.Labels)
		if first {
			id, there := w.index.Find(c.Tenant, one.Labels)
			if !there {
				id = next
				next++
			}
			out = append(out, row{labels: one.Labels, id: id, fresh: !there})
		}
		out[at].samples = append(out[at].samples, one.Samples...)
	}
	return out
}

// slotsFor is how many more slots the rows need; ErrStale, if one may not follow what its series has.
func (w *whole) slotsFor(tenant string, rows []row) (int, api.Errno) {
	slots := 0
	for _, r := range rows {
		more, e := w.store.Needs(tenant, r.id, r.samples)
		if e != api.OK {
			return 0, e
		}
		slots += more
	}
	return slots, api.OK
}

// takeAll counts a write in a book.
func takeAll(book *quota.Book, c api.Change, rows []row) api.Errno {
	fresh := 0
	for _, r := range rows {
		if r.fresh {
			fresh++
		}
	}
	return book.Take(c.Tenant, c.Window, fresh, samplesIn(c))
}

func (w *whole) growthOfWrite(c api.Change) int {
	rows := w.rowsOf(c)
	was, _ := w.Get(c.Tenant)
	apart := w.limitsApart(c.Tenant)
	takeAll(apart, c, rows)
	behind, _ := apart.Get(c.Tenant)
	grants := w.Save(c.Tenant)
	growth := len(head(c.Tenant, behind, grants)) - len(head(c.Tenant, was, grants))
	for _, r := range rows {
		growth += w.growthOfRow(c.Tenant, r)
	}
	return growth
}

func (w *whole) growthOfRow(tenant string, r row) int {
	had := w.store.Chunks(tenant, r.id)
	// The last chunk alone takes more; all ahead of it stay as they are.
	closed := max(len(had)-1, 0)
	open := had[closed:]
	behind := chunksBehind(open, r.samples)
	size := len(uintBytes(closed+len(behind))) + len(pile(behind))
	if r.fresh {
		return len(labelsBytes(r.labels)) + size
	}
	return size - len(uintBytes(len(had))) - len(pile(open))
}

// chunksBehind are those that a series which begins with an open chunk, or is not there yet, has behind some samples more.
func chunksBehind(open [][]byte, more []api.Sample) [][]byte {
	// So many slots are enough: no chunk is without samples.
	p, _ := pool.New(1 + api.MaxSamples)
	apart := series.New(p)
	apart.Lay("", 0, open)
	apart.Append("", 0, more)
	return apart.Chunks("", 0)
}

func (w *whole) doWrite(c api.Change) {
	rows := w.rowsOf(c)
	takeAll(w.Book, c, rows)
	for _, r := range rows {
		w.index.Add(c.Tenant, r.labels)
		w.store.Append(c.Tenant, r.id, r.samples)
	}
}
