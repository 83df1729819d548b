package wire

import "slices"

// part is one field of a request or of a response, which some kinds use and others do not.
type part struct {
	zero bool
	put  func(w *writer)
	take func(r *reader)
}

// parts writes those that are used, in their order there; of the others nothing would show in the bytes.
func (w *writer) parts(all []part, used []int) {
	for i, p := range all {
		w.must(p.zero || slices.Contains(used, i))
	}
	for _, i := range used {
		all[i].put(w)
	}
}

func (r *reader) parts(all []part, used []int) {
	for _, i := range used {
		all[i].take(r)
	}
}
