package index

import (
	"turnkey/api"
	"turnkey/match"
	"turnkey/post"
)

// narrow is those of a tenant's numbers whose series hold a matcher.
func (x *Index) narrow(left []uint32, tenant string, m api.Matcher) []uint32 {
	// It comes out of a set, so it may be in one.
	one, _ := match.New([]api.Matcher{m})
	// Who has no such label stands in no list of its name: if they hold, the others are taken away.
	bare := one.Holds(nil)
	var unlike [][]uint32
	for _, value := range x.valuesFor(tenant, m) {
		if one.Holds([]api.Label{{Name: m.Name, Value: value}}) != bare {
			unlike = append(unlike, x.entries[key{tenant, m.Name, value}])
		}
	}
	if bare {
		return post.Not(left, union(unlike))
	}
	return post.And(left, union(unlike))
}

// valuesFor are those that may hold a matcher otherwise than the empty value does.
func (x *Index) valuesFor(tenant string, m api.Matcher) []string {
	isOne := m.Op == api.OpIs || m.Op == api.OpNot
	if isOne && m.Text != "" {
		return []string{m.Text}
	}
	return x.rolls[tenant].values[m.Name]
}

// union goes through all lists at once: one by one, each would be gone through again for every list behind it.
func union(lists [][]uint32) []uint32 {
	var out []uint32
	for n := range post.Walk(lists...) {
		out = append(out, n)
	}
	return out
}
