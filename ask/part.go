package ask

// part is a part of a question's text, and how many bytes stand ahead of it; the empty one is the text's end.
type part struct {
	text string
	at   int
}

// partFrom is the first part that begins at a place or behind it.
func partFrom(s string, at int) part {
	for at < len(s) && s[at] == ' ' {
		at++
	}
	return part{text: s[at : at+partSize(s[at:])], at: at}
}

// partSize is how many bytes the part has with which a text begins.
func partSize(s string) int {
	switch {
	case s == "":
		return 0
	case s[0] == '{':
		return matchersSize(s)
	case isOfWord(s[0]):
		return wordSize(s)
	}
	return 1
}

func wordSize(s string) int {
	size := 0
	for size < len(s) && isOfWord(s[size]) {
		size++
	}
	return size
}

func isOfWord(c byte) bool {
	return 'A' <= c && c <= 'Z' || 'a' <= c && c <= 'z' || '0' <= c && c <= '9' || c == '_' || c == '-'
}

// matchersSize looks for the end alone: whether these are matchers, match says.
func matchersSize(s string) int {
	quoted := false
	for i := 0; i < len(s); i++ {
		switch {
		case quoted && s[i] == '\\':
			i++
		case s[i] == '"':
			quoted = !quoted
		case !quoted && s[i] == '}':
			return i + 1
		}
	}
	return len(s)
}
