package pattern

// maxDepth: so many brackets may stand within one another.
const maxDepth = 16

// reader goes through a text from the left; where it can't go on, it stands at the fault's place.
type reader struct {
	s     string
	at    int
	depth int
}

func (r *reader) rows() (rows, bool) {
	var out rows
	for {
		one, ok := r.row()
		if !ok {
			return nil, false
		}
		out = append(out, one)
		if !r.take('|') {
			return out, true
		}
	}
}

func (r *reader) row() (row, bool) {
	var out row
	for r.at < len(r.s) && r.s[r.at] != '|' && r.s[r.at] != ')' {
		item, ok := r.item()
		if !ok {
			return nil, false
		}
		out = append(out, item)
	}
	return out, true
}

func (r *reader) item() (part, bool) {
	atom, ok := r.atom()
	if !ok {
		return nil, false
	}
	for _, sign := range []byte{'*', '+', '?'} {
		if r.take(sign) {
			return repeat{atom, sign}, true
		}
	}
	return atom, true
}

func (r *reader) atom() (part, bool) {
	switch {
	case r.take('.'):
		return anyOne{}, true
	case r.take('['):
		return r.class()
	// A bracket too deep is left to character, which refuses signs where they stand.
	case r.depth < maxDepth && r.take('('):
		return r.group()
	}
	c, ok := r.character()
	return character(c), ok
}

func (r *reader) group() (part, bool) {
	r.depth++
	inner, ok := r.rows()
	r.depth--
	if !ok || !r.take(')') {
		return nil, false
	}
	return group{inner}, true
}

func (r *reader) class() (part, bool) {
	out := class{isOther: r.take('^')}
	for len(out.spans) == 0 || !r.take(']') {
		one, ok := r.span()
		if !ok {
			return nil, false
		}
		out.spans = with(out.spans, one)
	}
	return out, true
}

func (r *reader) span() (span, bool) {
	low, ok := r.character()
	if !ok || !r.take('-') {
		return span{low, low}, ok
	}
	place := r.at
	high, ok := r.character()
	if ok && high < low {
		r.at = place
		return span{}, false
	}
	return span{low, high}, ok
}

func (r *reader) character() (rune, bool) {
	isEscaped := r.take('\\')
	c, size := firstPoint(r.s[r.at:])
	if size == 0 || isSign(c) != isEscaped {
		return 0, false
	}
	r.at += size
	return c, true
}

// take goes behind the byte c, if it stands next.
func (r *reader) take(c byte) bool {
	if r.at == len(r.s) || r.s[r.at] != c {
		return false
	}
	r.at++
	return true
}

// firstPoint is the code point with which s begins, and how many bytes it has; 0: none, or what is no UTF-8.
func firstPoint(s string) (rune, int) {
	for _, c := range s {
		// The range tells bytes that are no UTF-8 as a code point that does not stand there.
		text := string(c)
		if len(s) < len(text) || s[:len(text)] != text {
			break
		}
		return c, len(text)
	}
	return 0, 0
}

func isSign(c rune) bool {
	switch c {
	case '\\', '.', '[', ']', '(', ')', '|', '*', '+', '?', '^', '-':
		return true
	}
	return false
}
