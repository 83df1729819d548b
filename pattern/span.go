package pattern

const (
	lastPoint = 0x10FFFF
	// No text has a code point from here to there.
	firstHidden, lastHidden = 0xD800, 0xDFFF
)

// span is the code points from low to high. In a list of them they rise, and none touches or overlaps another one.
type span struct {
	low, high rune
}

func (s span) print(out []byte) []byte {
	out = character(s.low).print(out)
	if s.low == s.high {
		return out
	}
	if s.low+1 < s.high {
		out = append(out, '-')
	}
	return character(s.high).print(out)
}

// with is the list and one more span, which takes in all that it touches or overlaps.
func with(l []span, more span) []span {
	var ahead, behind []span
	for _, one := range l {
		switch {
		case one.high+1 < more.low:
			ahead = append(ahead, one)
		case more.high+1 < one.low:
			behind = append(behind, one)
		default:
			more = span{min(one.low, more.low), max(one.high, more.high)}
		}
	}
	return append(append(ahead, more), behind...)
}

// others are all code points that are within none of the list.
func others(l []span) []span {
	var out []span
	low := rune(0)
	for _, one := range l {
		if low < one.low {
			out = append(out, span{low, one.low - 1})
		}
		low = one.high + 1
	}
	if low <= lastPoint {
		out = append(out, span{low, lastPoint})
	}
	return out
}

func within(l []span, c rune) bool {
	for _, one := range l {
		if one.low <= c && c <= one.high {
			return true
		}
	}
	return false
}

func isHidden(c rune) bool {
	return firstHidden <= c && c <= lastHidden
}
