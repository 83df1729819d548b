package ask

import (
	"slices"

	"turnkey/api"
	"turnkey/label"
)

// group is the samples that count of all series that are one to the question.
type group struct {
	labels  []api.Label
	samples []api.Sample
}

// Run answers it over some series (S3).
func Run(q *Query, l []api.Series) []api.Row {
	groups := joined(q.counting(l))
	if q.limit > 0 && len(groups) > q.limit {
		groups = groups[:q.limit]
	}
	rows := make([]api.Row, len(groups))
	for i, g := range groups {
		rows[i] = api.Row{Labels: g.labels, N: q.number(g.samples)}
	}
	return rows
}

// counting is a group of each series that counts, in memory of its own.
func (q *Query) counting(l []api.Series) []group {
	var out []group
	for _, s := range l {
		if !q.set.Holds(s.Labels) {
			continue
		}
		if samples := q.within(s.Samples); len(samples) > 0 {
			out = append(out, group{labels: q.labelsOf(s.Labels), samples: samples})
		}
	}
	return out
}

func (q *Query) within(l []api.Sample) []api.Sample {
	from, to := q.Span()
	var out []api.Sample
	for _, one := range l {
		if from <= one.T && one.T <= to {
			out = append(out, one)
		}
	}
	return out
}

// labelsOf is the labels of the group that a series is in. The names being the question's, two series have the same ones just if all their values are alike, the empty ones too.
func (q *Query) labelsOf(l []api.Label) []api.Label {
	if len(q.names) == 0 {
		return slices.Clone(l)
	}
	var out []api.Label
	for _, name := range q.names {
		if value := label.Get(l, name); value != "" {
			out = append(out, api.Label{Name: name, Value: value})
		}
	}
	return out
}

// joined puts groups with the same labels into one, and all in the order of their labels.
func joined(l []group) []group {
	slices.SortFunc(l, func(a, b group) int { return label.Cmp(a.labels, b.labels) })
	var out []group
	for _, g := range l {
		n := len(out)
		if n > 0 && label.Cmp(out[n-1].labels, g.labels) == 0 {
			out[n-1].samples = append(out[n-1].samples, g.samples...)
		} else {
			out = append(out, g)
		}
	}
	return out
}
