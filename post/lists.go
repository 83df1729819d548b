package post

import (
	"cmp"
	"iter"
)

// parts are those of two lists that are wanted: what the left one alone has, both, the right one alone.
type parts struct {
	left, both, right bool
}

// join goes through two rising lists at once; if one does not rise, there is nothing.
func join[T cmp.Ordered](a, b []T, want parts) []T {
	if !rises(a) || !rises(b) {
		return nil
	}
	var out []T
	for len(a) > 0 && len(b) > 0 {
		order := cmp.Compare(a[0], b[0])
		if want.holds(order) {
			out = append(out, min(a[0], b[0]))
		}
		if order <= 0 {
			a = a[1:]
		}
		if order >= 0 {
			b = b[1:]
		}
	}
	if want.left {
		out = append(out, a...)
	}
	if want.right {
		out = append(out, b...)
	}
	return out
}

// holds tells whether the lesser of two heads is wanted, by how the left one stands to the right one.
func (p parts) holds(order int) bool {
	switch {
	case order < 0:
		return p.left
	case order > 0:
		return p.right
	}
	return p.both
}

func rises[T cmp.Ordered](l []T) bool {
	for i := 1; i < len(l); i++ {
		if !cmp.Less(l[i-1], l[i]) {
			return false
		}
	}
	return true
}

// runs goes through a sorted list, and tells each thing once, and how often it stands there.
func runs[T cmp.Ordered](l []T) iter.Seq2[T, int] {
	return func(yield func(T, int) bool) {
		from := 0
		for i := range l {
			if i+1 < len(l) && cmp.Compare(l[i], l[i+1]) == 0 {
				continue
			}
			if !yield(l[i], i+1-from) {
				return
			}
			from = i + 1
		}
	}
}
