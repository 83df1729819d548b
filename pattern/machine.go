package pattern

// places is a set of a machine's spots, a bit each: a spot has a byte of the pattern at least, so there are at most MaxPattern (64) of them.
type places uint64

func (p places) has(i int) bool {
	return p>>i&1 == 1
}

// spot is where a pattern takes one code point.
type spot struct {
	takes []span
	next  places
}

// ends tells of a part at which spots what it means begins and ends, and whether it means the empty text.
type ends struct {
	first, last places
	isEmpty     bool
}

// machine is a pattern as it is matched: it is at all the spots at once that what it has taken may lead to, so a code point costs one look at each spot, however the pattern is made.
type machine struct {
	spots []spot
	ends  ends
}

func machineOf(l rows) machine {
	var m machine
	m.ends = m.add(l)
	return m
}

func (m *machine) add(p part) ends {
	switch x := p.(type) {
	case rows:
		var out ends
		for _, one := range x {
			out = either(out, m.add(one))
		}
		return out
	case row:
		out := ends{isEmpty: true}
		for _, item := range x {
			out = m.chain(out, m.add(item))
		}
		return out
	case group:
		return m.add(x.inner)
	case repeat:
		return m.repeated(m.add(x.atom), x.sign)
	}
	return m.addSpot(spansOf(p))
}

func (m *machine) addSpot(takes []span) ends {
	here := places(1) << len(m.spots)
	m.spots = append(m.spots, spot{takes: takes})
	return ends{first: here, last: here}
}

func either(a, b ends) ends {
	return ends{a.first | b.first, a.last | b.last, a.isEmpty || b.isEmpty}
}

func (m *machine) chain(a, b ends) ends {
	m.link(a.last, b.first)
	out := ends{a.first, b.last, a.isEmpty && b.isEmpty}
	if a.isEmpty {
		out.first |= b.first
	}
	if b.isEmpty {
		out.last |= a.last
	}
	return out
}

func (m *machine) repeated(e ends, sign byte) ends {
	if sign != '?' {
		m.link(e.last, e.first)
	}
	if sign != '+' {
		e.isEmpty = true
	}
	return e
}

func (m *machine) link(from, to places) {
	for i := range m.spots {
		if from.has(i) {
			m.spots[i].next |= to
		}
	}
}

func (m *machine) takes(v string) bool {
	open, isEnd := m.ends.first, m.ends.isEmpty
	for v != "" {
		c, size := firstPoint(v)
		if size == 0 {
			return false
		}
		v = v[size:]
		open, isEnd = m.step(open, c)
	}
	return isEnd
}

// step takes one code point: what may take the next one, and whether the text may end here.
func (m *machine) step(open places, c rune) (places, bool) {
	var next places
	isEnd := false
	for i, one := range m.spots {
		if open.has(i) && within(one.takes, c) {
			next |= one.next
			isEnd = isEnd || m.ends.last.has(i)
		}
	}
	return next, isEnd
}
