package ask

import (
	"cmp"
	"slices"

	"turnkey/api"
)

// numberOf is what a question's first word wants of a group's samples, of which there is one at least; nil of a word that wants nothing. None of these hangs on their order.
func numberOf(word string) func(l []api.Sample) uint64 {
	switch word {
	case "first":
		return first
	case "last":
		return last
	case "count":
		return count
	case "least":
		return least
	case "most":
		return most
	case "distinct":
		return distinct
	}
	return nil
}

func first(l []api.Sample) uint64 {
	return slices.MinFunc(l, byTime).V
}

func last(l []api.Sample) uint64 {
	return slices.MaxFunc(l, byTime).V
}

func count(l []api.Sample) uint64 {
	return uint64(len(l))
}

func least(l []api.Sample) uint64 {
	return slices.MinFunc(l, byValue).V
}

func most(l []api.Sample) uint64 {
	return slices.MaxFunc(l, byValue).V
}

func distinct(l []api.Sample) uint64 {
	unlike := map[uint64]struct{}{}
	for _, one := range l {
		unlike[one.V] = struct{}{}
	}
	return uint64(len(unlike))
}

// byTime: of one time the value decides, so that the first is the least, and the last the greatest.
func byTime(a, b api.Sample) int {
	return cmp.Or(cmp.Compare(a.T, b.T), byValue(a, b))
}

func byValue(a, b api.Sample) int {
	return cmp.Compare(a.V, b.V)
}
