package label

import (
	"strings"

	"turnkey/api"
)

const lineEnd = 10

// Print writes a right set as text (G3).
func Print(l []api.Label) string {
	if Right(l) != api.OK {
		return ""
	}
	var out strings.Builder
	for i, one := range l {
		if i == 0 {
			out.WriteString("{")
		} else {
			out.WriteString(", ")
		}
		out.WriteString(one.Name)
		out.WriteString("=\"")
		writeQuoted(&out, one.Value)
		out.WriteString("\"")
	}
	out.WriteString("}")
	return out.String()
}

func writeQuoted(out *strings.Builder, value string) {
	for i := range len(value) {
		switch c := value[i]; c {
		case '\\', '"':
			out.WriteByte('\\')
			out.WriteByte(c)
		case lineEnd:
			out.WriteString("\\n")
		default:
			out.WriteByte(c)
		}
	}
}

// Parse reads one; an error is an *api.Fault (G3).
func Parse(s string) ([]api.Label, error) {
	r := reader{s: s}
	f, ok := r.set()
	if !ok {
		return nil, &api.Fault{At: r.at, Err: api.ErrLabels}
	}
	if f.isWrong {
		return nil, &api.Fault{At: f.wrong, Err: api.ErrLabels}
	}
	return byName(f.labels), nil
}

// found is what a text has told so far: the labels ahead of the first one that is wrong, and the place of that one.
type found struct {
	labels  []api.Label
	isWrong bool
	wrong   int
}

// add goes by what stands ahead: behind a label that is wrong nothing matters but the text's form.
func (f *found) add(one api.Label, place int) {
	if f.isWrong {
		return
	}
	// A right label's value is never empty, so an empty one tells that the name is new.
	isNew := Get(f.labels, one.Name) == ""
	if len(f.labels) == api.MaxLabels || !isNew || !isName(one.Name) || !isValue(one.Value) {
		f.refuse(place)
		return
	}
	f.labels = append(f.labels, one)
}

func (f *found) refuse(place int) {
	f.isWrong, f.wrong = true, place
}

// reader goes through a text from the left and stops at the first byte with which no right text goes on: by what is read ahead of it, each byte has one meaning alone, so that byte is the fault's place.
type reader struct {
	s  string
	at int
}

func (r *reader) set() (found, bool) {
	var f found
	if !r.take('{') {
		return f, false
	}
	if r.take('}') {
		f.refuse(r.at - 1)
		return f, r.atEnd()
	}
	for {
		r.skipBlanks()
		place := r.at
		one, ok := r.label()
		if !ok {
			return f, false
		}
		f.add(one, place)
		if r.take('}') {
			return f, r.atEnd()
		}
		if !r.take(',') {
			return f, false
		}
	}
}

func (r *reader) label() (api.Label, bool) {
	name := r.word()
	if name == "" || !r.take('=') {
		return api.Label{}, false
	}
	value, ok := r.quote()
	return api.Label{Name: name, Value: value}, ok
}

func (r *reader) skipBlanks() {
	for r.at < len(r.s) && r.s[r.at] == ' ' {
		r.at++
	}
}

func (r *reader) atEnd() bool {
	r.skipBlanks()
	return r.at == len(r.s)
}

// take goes behind the byte c, if it stands next but for blanks.
func (r *reader) take(c byte) bool {
	if r.atEnd() || r.s[r.at] != c {
		return false
	}
	r.at++
	return true
}

func (r *reader) word() string {
	from := r.at
	r.at += wordSize(r.s[from:])
	return r.s[from:r.at]
}

func (r *reader) quote() (string, bool) {
	if !r.take('"') {
		return "", false
	}
	var out strings.Builder
	for ; r.at < len(r.s); r.at++ {
		switch c := r.s[r.at]; c {
		case '"':
			r.at++
			return out.String(), true
		case lineEnd:
			return "", false
		case '\\':
			r.at++
			meant, ok := r.escaped()
			if !ok {
				return "", false
			}
			out.WriteByte(meant)
		default:
			out.WriteByte(c)
		}
	}
	return "", false
}

// escaped is what the byte behind a `\` stands for.
func (r *reader) escaped() (byte, bool) {
	if r.at == len(r.s) {
		return 0, false
	}
	switch c := r.s[r.at]; c {
	case '\\', '"':
		return c, true
	case 'n':
		return lineEnd, true
	}
	return 0, false
}
