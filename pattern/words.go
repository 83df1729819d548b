package pattern

// maxWords: more of them are not told.
const maxWords = 16

// wordsOf are the texts that a part means, rising, each once; nil and false, if they are more than maxWords.
func wordsOf(p part) ([]string, bool) {
	switch x := p.(type) {
	case rows:
		return wordsOfRows(x)
	case row:
		return wordsOfRow(x)
	case group:
		return wordsOf(x.inner)
	case repeat:
		return wordsOfRepeat(x)
	}
	return wordsOfSpans(spansOf(p))
}

func wordsOfRows(l rows) ([]string, bool) {
	var out []string
	for _, one := range l {
		more, ok := wordsOf(one)
		if !ok {
			return nil, false
		}
		if out, ok = together(out, more); !ok {
			return nil, false
		}
	}
	return out, true
}

// wordsOfRow asks every item, also behind one of many words: one that means nothing lets the row mean nothing.
func wordsOfRow(items row) ([]string, bool) {
	out, isFew := []string{""}, true
	for _, item := range items {
		more, ok := wordsOf(item)
		if ok && len(more) == 0 {
			return nil, true
		}
		// Words do not grow fewer by what stands behind them, so many stay many.
		if isFew = isFew && ok; isFew {
			out, isFew = chained(out, more)
		}
	}
	if !isFew {
		return nil, false
	}
	return out, true
}

func wordsOfRepeat(r repeat) ([]string, bool) {
	atom, ok := wordsOf(r.atom)
	if !ok {
		return nil, false
	}
	hasLetters := len(atom) > 1 || len(atom) == 1 && atom[0] != ""
	if hasLetters && r.sign != '?' {
		return nil, false
	}
	if r.sign == '+' {
		return atom, true
	}
	return together(atom, []string{""})
}

func wordsOfSpans(l []span) ([]string, bool) {
	var out []string
	for _, one := range l {
		for c := one.low; c <= one.high; c++ {
			if isHidden(c) {
				continue
			}
			if len(out) == maxWords {
				return nil, false
			}
			out = append(out, string(c))
		}
	}
	return out, true
}

// together is the words of both lists.
func together(a, b []string) ([]string, bool) {
	for _, word := range b {
		if a = put(a, word); len(a) > maxWords {
			return nil, false
		}
	}
	return a, true
}

// chained is each word of a with each of b behind it.
func chained(a, b []string) ([]string, bool) {
	var out []string
	for _, head := range a {
		for _, tail := range b {
			if out = put(out, head+tail); len(out) > maxWords {
				return nil, false
			}
		}
	}
	return out, true
}

// put lays a word where it belongs in a rising list, if it is not there.
func put(l []string, word string) []string {
	i := len(l)
	for i > 0 && l[i-1] >= word {
		i--
	}
	if i < len(l) && l[i] == word {
		return l
	}
	l = append(l, word)
	copy(l[i+1:], l[i:])
	l[i] = word
	return l
}
