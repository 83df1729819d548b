package pattern

import (
	"math/rand"
	"regexp"
	"slices"
	"strconv"
	"strings"
	"testing"
	"unicode/utf8"

	"turnkey/api"
)

// made is a pattern that a test has made: its text, what Print should tell of it, an expression of package regexp that means the same, and its words by plain sets.
type made struct {
	text, printed, same string
	words               map[string]bool
	isMuch              bool // more words than a test wants to count
}

const manyWords = 40

func wordSet(words ...string) map[string]bool {
	out := map[string]bool{}
	for _, w := range words {
		out[w] = true
	}
	return out
}

// maker makes patterns at random.
type maker struct {
	*rand.Rand
}

var points = []rune{'a', 'b', 'c', 'd', 'e', '-', '.', '\\', ']', '^', 'é', 0, 0xd7ff, 0xe000, 0x10ffff}

func (m maker) point() rune { return points[m.Intn(len(points))] }

func written(c rune) string {
	if strings.ContainsRune(allSigns, c) {
		return `\` + string(c)
	}
	return string(c)
}

func inRegexp(c rune) string { return `\x{` + strconv.FormatInt(int64(c), 16) + `}` }

func (m maker) character() made {
	c := m.point()
	return made{written(c), written(c), inRegexp(c), wordSet(string(c)), false}
}

func (m maker) class() made {
	var ranges [][2]rune
	for range 1 + m.Intn(4) {
		low := m.point()
		high := low
		if m.Intn(2) == 0 {
			high = max(low, m.point())
		}
		ranges = append(ranges, [2]rune{low, high})
	}
	isOther := m.Intn(3) == 0
	if isOther && m.Intn(2) == 0 { // little, or nothing, is left of all
		ranges = append(ranges, [2]rune{0, m.point()}, [2]rune{'d', 0x10ffff})
	}
	head := "["
	if isOther {
		head = "[^"
	}
	out := made{text: head, printed: head + runs(ranges) + "]", same: head}
	for _, r := range ranges {
		out.text += written(r[0])
		if r[0] != r[1] || m.Intn(4) == 0 {
			out.text += "-" + written(r[1])
		}
		out.same += inRegexp(r[0]) + "-" + inRegexp(r[1])
	}
	out.text += "]"
	out.same += "]"
	out.words, out.isMuch = wordsWithin(ranges, isOther)
	return out
}

// wordsWithin goes from one code point to the next at which a range begins or ends, as far as those between are all alike out of the set.
func wordsWithin(ranges [][2]rune, isOther bool) (map[string]bool, bool) {
	out := wordSet()
	for c := rune(0); c <= 0x10ffff; {
		if covered(ranges, c) == isOther {
			next := rune(0x110000)
			for _, r := range ranges {
				for _, edge := range []rune{r[0], r[1] + 1} {
					if edge > c {
						next = min(next, edge)
					}
				}
			}
			c = next
			continue
		}
		if utf8.ValidRune(c) {
			out[string(c)] = true
		}
		if c++; len(out) > manyWords {
			return nil, true
		}
	}
	return out, false
}

func covered(ranges [][2]rune, c rune) bool {
	return slices.ContainsFunc(ranges, func(r [2]rune) bool { return r[0] <= c && c <= r[1] })
}

// runs is how the ranges are printed: a run begins at a low end with nothing ahead, and ends at the next high end with nothing behind.
func runs(ranges [][2]rune) string {
	var lows, highs []rune
	for _, r := range ranges {
		if !covered(ranges, r[0]-1) {
			lows = append(lows, r[0])
		}
		if !covered(ranges, r[1]+1) {
			highs = append(highs, r[1])
		}
	}
	slices.Sort(lows)
	slices.Sort(highs)
	lows, highs = slices.Compact(lows), slices.Compact(highs)
	out := ""
	for i, low := range lows {
		switch highs[i] - low {
		case 0:
			out += written(low)
		case 1:
			out += written(low) + written(highs[i])
		default:
			out += written(low) + "-" + written(highs[i])
		}
	}
	return out
}

func (m maker) atom(depth int) made {
	switch n := m.Intn(12); {
	case n == 0:
		return made{".", ".", "(?s:.)", nil, true}
	case n < 4:
		return m.class()
	case n < 7 && depth > 0:
		in := m.rows(depth - 1)
		return made{"(" + in.text + ")", "(" + in.printed + ")", "(?:" + in.same + ")", in.words, in.isMuch}
	}
	return m.character()
}

func (m maker) item(depth int) made {
	out := m.atom(depth)
	n := m.Intn(9)
	if n > 2 {
		return out
	}
	sign := "*+?"[n : n+1]
	out.text, out.printed, out.same = out.text+sign, out.printed+sign, "(?:"+out.same+")"+sign
	if sign != "?" {
		out.isMuch = out.isMuch || len(out.words) > 1 || len(out.words) == 1 && !out.words[""]
	}
	if sign != "+" && !out.isMuch {
		out.words = wordSet(append(keys(out.words), "")...)
	}
	return out
}

func (m maker) row(depth int) made {
	out := made{words: wordSet("")}
	for range m.Intn(4) {
		out = chainedWith(out, m.item(depth))
	}
	return out
}

func chainedWith(a, b made) made {
	out := made{a.text + b.text, a.printed + b.printed, a.same + b.same, wordSet(), false}
	if !a.isMuch && len(a.words) == 0 || !b.isMuch && len(b.words) == 0 {
		return out
	}
	for head := range a.words {
		for tail := range b.words {
			out.words[head+tail] = true
		}
	}
	out.isMuch = a.isMuch || b.isMuch || len(out.words) > manyWords
	return out
}

func (m maker) rows(depth int) made {
	out := m.row(depth)
	for range m.Intn(3) {
		b := m.row(depth)
		out = made{out.text + "|" + b.text, out.printed + "|" + b.printed, out.same + "|" + b.same, wordSet(append(keys(out.words), keys(b.words)...)...), out.isMuch || b.isMuch}
	}
	return out
}

func keys(set map[string]bool) []string {
	var out []string
	for w := range set {
		out = append(out, w)
	}
	slices.Sort(out)
	return out
}

// values to ask for: words of the pattern, texts of some points, and such as are no UTF-8.
func (m maker) values(p made) []string {
	out := append(keys(p.words), "")
	for range 40 {
		v := ""
		for range m.Intn(5) {
			v += string(m.point())
		}
		out = append(out, v)
	}
	return append(out, "\xff", "a\xffb", "\ufffd", "\xed\xa0\x80")
}

func TestRandomPatterns(t *testing.T) {
	m := maker{rand.New(rand.NewSource(8))}
	few, held := 0, 0
	for range 4000 {
		c := m.rows(3)
		if len(c.text) > api.MaxPattern {
			wantFault(t, c.text, api.MaxPattern)
			continue
		}
		p := read(t, c.text)
		if got := p.Print(); got != c.printed || len(got) > len(c.text) {
			t.Fatalf("Print of %q: %q, not %q", c.text, got, c.printed)
		}
		again := read(t, c.printed)
		if again.Print() != c.printed {
			t.Fatalf("Print of %q is %q", c.printed, again.Print())
		}
		same := regexp.MustCompile(`\A(?:` + c.same + `)\z`)
		for _, v := range m.values(c) {
			want := utf8.ValidString(v) && same.MatchString(v)
			if p.Match(v) != want || again.Match(v) != want {
				t.Fatalf("Match of %q, %q: %v", c.text, v, !want)
			}
			if want {
				held++
			}
		}
		words, isFew := p.Words()
		if isFew {
			few++
		}
		if isFew != (!c.isMuch && len(c.words) <= 16) || isFew && !slices.Equal(words, keys(c.words)) || !isFew && words != nil {
			t.Fatalf("Words of %q: %q, %v; not %q, %v", c.text, words, isFew, keys(c.words), c.isMuch)
		}
	}
	if few < 500 || held < 5000 {
		t.Errorf("too few of a kind: %d of few words, %d values that are meant", few, held)
	}
}

// TestEitherMeansEither: `(P)|(Q)` means what P means or Q.
func TestEitherMeansEither(t *testing.T) {
	m := maker{rand.New(rand.NewSource(9))}
	for range 1000 {
		a, b := m.rows(1), m.rows(1)
		if len(a.text)+len(b.text)+5 > api.MaxPattern {
			continue
		}
		p, q, both := read(t, a.text), read(t, b.text), read(t, "("+a.text+")|("+b.text+")")
		for _, v := range append(m.values(a), m.values(b)...) {
			if both.Match(v) != (p.Match(v) || q.Match(v)) {
				t.Fatalf("of %q or %q, %q", a.text, b.text, v)
			}
		}
	}
}
