package shell

import (
	"strconv"
	"strings"

	"turnkey/api"
	"turnkey/label"
	"turnkey/match"
)

// read lets the command of a line, by a table, read what stands behind it; an error: the table has no such command, or it lacks something there, or something is left.
func read[T any](s *Shell, line string, table map[string]func(s *Shell, w *words) T) (out T, e api.Errno) {
	defer func() {
		// Nothing but a refusal of the line is given up so: whatever else it were, the assertion would not hide it.
		if wrong := recover(); wrong != nil {
			e = wrong.(api.Errno)
		}
	}()
	w := &words{left: line}
	command, known := table[w.word()]
	must(known)
	found := command(s, w)
	w.end()
	return found, api.OK
}

// must gives the line up by a panic, which read catches: so what lies between need not hand it on.
func must(ok bool) {
	if !ok {
		panic(api.ErrLine)
	}
}

// words is what is left of a line that is read word by word.
type words struct {
	left string
}

func (w *words) word() string {
	text := strings.TrimLeft(w.left, " ")
	must(text != "")
	size := strings.IndexByte(text, ' ')
	if size < 0 {
		size = len(text)
	}
	w.left = text[size:]
	return text[:size]
}

// rest is all that is left, but for the one blank behind the word ahead.
func (w *words) rest() string {
	text := strings.TrimPrefix(w.left, " ")
	w.left = ""
	return text
}

func (w *words) end() {
	must(strings.TrimLeft(w.left, " ") == "")
}

// number, as bits and octets, takes a word if it is written again as it stands there: each has one form alone, and strconv reads others, too.
func (w *words) number() int64 {
	word := w.word()
	n, err := strconv.ParseInt(word, 10, 64)
	must(err == nil && strconv.FormatInt(n, 10) == word)
	return n
}

func (w *words) amount() int {
	return int(w.number())
}

func (w *words) bits() uint64 {
	word := w.word()
	v, err := strconv.ParseUint(word, 16, 64)
	must(err == nil && bitsText(v) == word)
	return v
}

func (w *words) octets() []byte {
	word := w.word()
	must(len(word)%2 == 0)
	var out []byte
	for i := 0; i < len(word); i += 2 {
		b, err := strconv.ParseUint(word[i:i+2], 16, 8)
		must(err == nil)
		out = append(out, byte(b))
	}
	must(octetsText(out) == word)
	return out
}

func (w *words) labels() []api.Label {
	l, err := label.Parse(w.rest())
	must(err == nil)
	return l
}

func (w *words) matchers() []api.Matcher {
	l, err := match.Parse(w.rest())
	must(err == nil)
	return l
}
