package match

import (
	"strings"

	"turnkey/api"
)

const lineEnd = 10

// Print is matchers as a text (I4).
func Print(l []api.Matcher) string {
	if _, e := New(l); e != api.OK {
		return ""
	}
	var out strings.Builder
	out.WriteString("{")
	for i, m := range l {
		if i > 0 {
			out.WriteString(", ")
		}
		out.WriteString(m.Name)
		out.WriteString(opText(m.Op))
		out.WriteString("\"")
		writeQuoted(&out, m.Text)
		out.WriteString("\"")
	}
	out.WriteString("}")
	return out.String()
}

func opText(op int) string {
	switch op {
	case api.OpIs:
		return "="
	case api.OpNot:
		return "!="
	case api.OpLike:
		return "=~"
	}
	return "!~"
}

func writeQuoted(out *strings.Builder, text string) {
	for i := range len(text) {
		switch c := text[i]; c {
		case '\\', '"':
			out.WriteByte('\\')
			out.WriteByte(c)
		case lineEnd:
			out.WriteString("\\n")
		default:
			out.WriteByte(c)
		}
	}
}

// Parse reads such a text (I4).
func Parse(s string) ([]api.Matcher, error) {
	r := reader{s: s}
	f, ok := r.set()
	if !ok {
		return nil, &api.Fault{At: r.at, Err: api.ErrMatch}
	}
	if f.isWrong {
		return nil, &api.Fault{At: f.wrong, Err: api.ErrMatch}
	}
	return f.matchers, nil
}

// found is what a text has told so far: the matchers ahead of the first one that is wrong, and the place of that one.
type found struct {
	matchers []api.Matcher
	isWrong  bool
	wrong    int
}

// add goes by what stands ahead: behind a matcher that is wrong nothing matters but the text's form.
func (f *found) add(m api.Matcher, place int) {
	if f.isWrong {
		return
	}
	_, mayBe := ruleOf(m)
	if !mayBe || len(f.matchers) == api.MaxMatchers {
		f.isWrong, f.wrong = true, place
		return
	}
	f.matchers = append(f.matchers, m)
}

// reader goes through a text from the left and stops at the first byte with which no right text goes on: by what is read ahead of it, each byte has one meaning alone, so that byte is the fault's place.
type reader struct {
	s  string
	at int
}

func (r *reader) set() (found, bool) {
	var f found
	if !r.take('{') {
		return f, false
	}
	if r.take('}') {
		return f, r.atEnd()
	}
	for {
		r.skipBlanks()
		place := r.at
		m, ok := r.matcher()
		if !ok {
			return f, false
		}
		f.add(m, place)
		if r.take('}') {
			return f, r.atEnd()
		}
		if !r.take(',') {
			return f, false
		}
	}
}

func (r *reader) matcher() (api.Matcher, bool) {
	name, ok := r.word()
	if !ok {
		return api.Matcher{}, false
	}
	op, ok := r.op()
	if !ok {
		return api.Matcher{}, false
	}
	text, ok := r.quote()
	return api.Matcher{Name: name, Op: op, Text: text}, ok
}

func (r *reader) skipBlanks() {
	for r.at < len(r.s) && r.s[r.at] == ' ' {
		r.at++
	}
}

func (r *reader) atEnd() bool {
	r.skipBlanks()
	return r.at == len(r.s)
}

// take goes behind the byte c, if it stands next but for blanks.
func (r *reader) take(c byte) bool {
	r.skipBlanks()
	return r.takeHere(c)
}

// takeHere goes behind the byte c, if it stands just here.
func (r *reader) takeHere(c byte) bool {
	if r.at == len(r.s) || r.s[r.at] != c {
		return false
	}
	r.at++
	return true
}

func (r *reader) word() (string, bool) {
	from := r.at
	for r.at < len(r.s) && (isLetter(r.s[r.at]) || r.at > from && isDigit(r.s[r.at])) {
		r.at++
	}
	return r.s[from:r.at], r.at > from
}

// op takes blanks ahead of an op, but none between its two bytes.
func (r *reader) op() (int, bool) {
	switch {
	case r.take('='):
		if r.takeHere('~') {
			return api.OpLike, true
		}
		return api.OpIs, true
	case r.take('!'):
		if r.takeHere('=') {
			return api.OpNot, true
		}
		return api.OpUnlike, r.takeHere('~')
	}
	return 0, false
}

func (r *reader) quote() (string, bool) {
	if !r.take('"') {
		return "", false
	}
	var out strings.Builder
	for r.at < len(r.s) {
		c := r.s[r.at]
		if c == lineEnd {
			return "", false
		}
		r.at++
		switch c {
		case '"':
			return out.String(), true
		case '\\':
			meant, ok := r.escaped()
			if !ok {
				return "", false
			}
			out.WriteByte(meant)
		default:
			out.WriteByte(c)
		}
	}
	return "", false
}

// escaped is what the byte behind a `\` stands for.
func (r *reader) escaped() (byte, bool) {
	switch {
	case r.takeHere('\\'):
		return '\\', true
	case r.takeHere('"'):
		return '"', true
	case r.takeHere('n'):
		return lineEnd, true
	}
	return 0, false
}

func isLetter(c byte) bool {
	return 'a' <= c && c <= 'z' || 'A' <= c && c <= 'Z' || c == '_'
}

func isDigit(c byte) bool {
	return '0' <= c && c <= '9'
}
