package index

import "turnkey/api"

// roll is a tenant's series.
type roll struct {
	series  [][]api.Label       // by number
	numbers map[set]int         // by labels
	values  map[string][]string // by name: those of entries, each once, as they came
}

// set is a right set of labels that can be a key; empty labels stand behind those that it has.
type set [api.MaxLabels]api.Label

func newRoll() roll {
	return roll{numbers: map[set]int{}, values: map[string][]string{}}
}

func setOf(l []api.Label) set {
	var s set
	copy(s[:], l)
	return s
}
