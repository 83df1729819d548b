package pattern

import (
	"errors"
	"math/rand"
	"regexp"
	"strings"
	"testing"
	"unicode/utf8"

	"turnkey/api"
)

// The chapter's grammar by expressions: what is single is told apart first, then brackets are taken away from the inside.
const (
	oneChar  = `(?:\\[\\.\[\]()|*+?^\-]|[^\\.\[\]()|*+?^\-])`
	oneRange = oneChar + `(?:-` + oneChar + `)?`
	oneClass = `\[\^?(?:` + oneRange + `)+\]`
)

var (
	single = regexp.MustCompile(oneClass + `|` + oneChar)
	aRange = regexp.MustCompile(`(` + oneChar + `)-(` + oneChar + `)|` + oneChar)
	inside = regexp.MustCompile(`\((?:[a.][*+?]?|\|)*\)`)
	flat   = regexp.MustCompile(`\A(?:[a.][*+?]?|\|)*\z`)
)

// hasForm tells whether a text is a pattern but for the order of its ranges, and isRising whether that is right, too: by no more than the chapter's definitions.
func hasForm(s string) bool {
	if !utf8.ValidString(s) {
		return false
	}
	s = single.ReplaceAllString(s, "a")
	depth := 0
	for _, c := range s {
		depth += strings.Count("(", string(c)) - strings.Count(")", string(c))
		if depth > 16 {
			return false
		}
	}
	for inside.MatchString(s) {
		s = inside.ReplaceAllString(s, "a")
	}
	return flat.MatchString(s)
}

func isRising(s string) bool {
	for _, class := range single.FindAllString(s, -1) {
		if class[0] != '[' {
			continue
		}
		for _, ends := range aRange.FindAllStringSubmatch(class[1:len(class)-1], -1) {
			low, _ := utf8.DecodeLastRuneInString(ends[1])
			high, _ := utf8.DecodeLastRuneInString(ends[2])
			if ends[1] != "" && low > high {
				return false
			}
		}
	}
	return true
}

// faultOf is the place of the first code point that can't stand where it is; of the last character of a range whose first one is above it, the place where that begins. Of a right text: -1.
func faultOf(s string) int {
	for at := 0; at < len(s); {
		_, size := utf8.DecodeRuneInString(s[at:])
		behind := s[:at+size]
		if !canEnd(behind, "", "a", "|", "]", "a]", "|]") {
			return at
		}
		if closed, ok := ended(behind, "]"); ok && !isRising(closed) {
			if strings.ContainsRune(allSigns, rune(s[at])) {
				at--
			}
			return at
		}
		at += size
	}
	if hasForm(s) {
		return -1
	}
	return len(s)
}

func canEnd(s string, ends ...string) bool {
	for _, end := range ends {
		if _, ok := ended(s, end); ok {
			return true
		}
	}
	return false
}

// ended is s and an end, and as many brackets as it lacks.
func ended(s, end string) (string, bool) {
	s += end + strings.Repeat(")", max(0, open(s+end)))
	return s, hasForm(s)
}

// open is how many brackets more are opened than closed.
func open(s string) int {
	s = single.ReplaceAllString(s, "a")
	return strings.Count(s, "(") - strings.Count(s, ")")
}

func wantAsDefined(t *testing.T, s string) (isRight bool) {
	t.Helper()
	p, err := Parse(s)
	at := faultOf(s)
	if at < 0 {
		if p == nil || err != nil {
			t.Fatalf("Parse(%q) = %v, %v; it is right", s, p, err)
		}
		return true
	}
	var f *api.Fault
	if p != nil || !errors.As(err, &f) || f.Err != api.ErrPattern || f.At != at {
		t.Fatalf("Parse(%q) = %v, %v; not at %d", s, p, err, at)
	}
	return false
}

func TestParseOfAllShortTexts(t *testing.T) {
	letters := []string{`\`, ".", "[", "]", "(", ")", "|", "*", "^", "-", "b", "a", "\xff"}
	var all func(s string, left int)
	all = func(s string, left int) {
		// Behind a fault nothing matters any more.
		if at := faultOf(s); at >= 0 && at < len(s)-1 {
			left = 0
		}
		wantAsDefined(t, s)
		if left > 0 {
			for _, c := range letters {
				all(s+c, left-1)
			}
		}
	}
	all("", 4)
}

func TestParseOfRandomTexts(t *testing.T) {
	r := rand.New(rand.NewSource(10))
	letters := []string{`\`, ".", "[", "]", "(", ")", "|", "*", "+", "?", "^", "-", "a", "b", "x", "[", "[", "a", "é", "(", `\`, `\-`, "-b", "]", "b-", "-", "["}
	right := 0
	count := func(s string) {
		if len(s) <= api.MaxPattern && wantAsDefined(t, s) {
			right++
		}
	}
	for range 5000 {
		s := []string{"", "[", "[b-", "(["}[r.Intn(4)]
		for range 1 + r.Intn(9) {
			s += letters[r.Intn(len(letters))]
		}
		count(s)
	}
	m := maker{rand.New(rand.NewSource(11))}
	for range 2000 { // and right ones of which one code point was changed
		l := []rune(m.rows(2).text + "a")
		l[r.Intn(len(l))] = []rune(letters[r.Intn(len(letters))])[0]
		count(string(l))
	}
	for range 300 { // and brackets
		s := ""
		for range 14 + r.Intn(20) {
			s += []string{"(", "(", "(", "(", "(", ")", "|"}[r.Intn(7)]
		}
		count(s)
		count(s + strings.Repeat(")", max(0, open(s))))
	}
	if right < 500 {
		t.Errorf("too few right texts: %d", right)
	}
}
