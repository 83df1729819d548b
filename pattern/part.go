package pattern

// part is one piece of a pattern: all but print ask by a type switch which one it is.
type part interface {
	// print appends it as text.
	print(out []byte) []byte
}

// character stands for itself.
type character rune

// anyOne is a `.`.
type anyOne struct{}

// class is one code point out of some spans, or out of none of them.
type class struct {
	isOther bool
	spans   []span
}

// group is what stands between brackets.
type group struct {
	inner rows
}

// repeat is an atom and the sign behind it: `*`, `+` or `?`.
type repeat struct {
	atom part
	sign byte
}

// row is items, one behind the other.
type row []part

// rows stand for one another.
type rows []row

func (c character) print(out []byte) []byte {
	if isSign(rune(c)) {
		out = append(out, '\\')
	}
	return append(out, string(rune(c))...)
}

func (anyOne) print(out []byte) []byte {
	return append(out, '.')
}

func (c class) print(out []byte) []byte {
	out = append(out, '[')
	if c.isOther {
		out = append(out, '^')
	}
	for _, one := range c.spans {
		out = one.print(out)
	}
	return append(out, ']')
}

func (g group) print(out []byte) []byte {
	out = append(out, '(')
	out = g.inner.print(out)
	return append(out, ')')
}

func (r repeat) print(out []byte) []byte {
	return append(r.atom.print(out), r.sign)
}

func (r row) print(out []byte) []byte {
	for _, item := range r {
		out = item.print(out)
	}
	return out
}

func (l rows) print(out []byte) []byte {
	for i, one := range l {
		if i > 0 {
			out = append(out, '|')
		}
		out = one.print(out)
	}
	return out
}

// spansOf is what a part means that means single code points.
func spansOf(p part) []span {
	switch x := p.(type) {
	case character:
		return []span{{rune(x), rune(x)}}
	case anyOne:
		return others(nil)
	case class:
		if x.isOther {
			return others(x.spans)
		}
		return x.spans
	}
	return nil
}
