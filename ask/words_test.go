package ask

import (
	"errors"
	"fmt"
	"math/big"
	"math/rand"
	"regexp"
	"slices"
	"strings"
	"testing"

	"turnkey/api"
	"turnkey/label"
	"turnkey/match"
)

// This file says chapter 19 once more, apart from how the program does it: the parts by one expression, the question by
// a table of what may stand behind what, the answer by groups with all their samples in order.

var (
	blanks    = regexp.MustCompile(`^ *`)
	onePart   = regexp.MustCompile(`(?s)^(?:[A-Za-z0-9_-]+|\{(?:[^"}]|"(?:[^"\\]|\\.)*(?:"|\\?\z))*(?:\}|\z)|.)`)
	wholeForm = regexp.MustCompile(`^(0|-?[1-9][0-9]*)$`)
	nameForm  = regexp.MustCompile(`^[A-Za-z_][A-Za-z0-9_]{0,31}$`)
)

// told is what a text asks, plainly.
type told struct {
	word     string
	names    []string
	matchers []api.Matcher
	from, to string // as written; none: the empty text
	limit    int
}

func (q told) print() string {
	l := []string{q.word}
	if len(q.names) > 0 {
		l = append(l, "by", "("+strings.Join(slices.Sorted(slices.Values(q.names)), ", ")+")")
	}
	l = append(l, match.Print(q.matchers))
	if q.from != "" {
		l = append(l, "from", q.from)
	}
	if q.to != "" {
		l = append(l, "to", q.to)
	}
	if q.limit > 0 {
		l = append(l, "limit", fmt.Sprint(q.limit))
	}
	return strings.Join(l, " ")
}

func numberWithin(s string, least, most string) bool {
	if !wholeForm.MatchString(s) {
		return false
	}
	n, a, b := new(big.Int), new(big.Int), new(big.Int)
	n.SetString(s, 10)
	a.SetString(least, 10)
	b.SetString(most, 10)
	return n.Cmp(a) >= 0 && n.Cmp(b) <= 0
}

func isTime(s string) bool {
	return numberWithin(s, "-9223372036854775808", "9223372036854775807")
}

// places is what may stand at each place of a question, and which place comes behind it. A place that is none ends it.
func (q *told) places() map[string]map[string]string {
	afterName := map[string]string{")": "set"}
	if len(q.names) < 8 {
		afterName[","] = "name"
	}
	return map[string]map[string]string{
		"func":     {"FUNC": "by"},
		"by":       {"by": "open", "MATCHERS": "from"},
		"open":     {"(": "name"},
		"name":     {"NAME": "comma"},
		"comma":    afterName,
		"set":      {"MATCHERS": "from"},
		"from":     {"from": "fromTime", "to": "toTime", "limit": "rows", "": "done"},
		"to":       {"to": "toTime", "limit": "rows", "": "done"},
		"limit":    {"limit": "rows", "": "done"},
		"end":      {"": "done"},
		"fromTime": {"FROM": "to"},
		"toTime":   {"TO": "limit"},
		"rows":     {"ROWS": "end"},
	}
}

// takes tells whether the part is of that sort, and keeps it if so.
func (q *told) takes(sort, text string) bool {
	ok := false
	switch sort {
	case "FUNC":
		if ok = slices.Contains([]string{"first", "last", "count", "least", "most", "distinct"}, text); ok {
			q.word = text
		}
	case "NAME":
		if ok = nameForm.MatchString(text) && !slices.Contains(q.names, text); ok {
			q.names = append(q.names, text)
		}
	case "MATCHERS":
		var err error
		q.matchers, err = match.Parse(text)
		ok = err == nil
	case "FROM":
		if ok = isTime(text); ok {
			q.from = text
		}
	case "TO":
		if ok = isTime(text); ok {
			q.to = text
		}
	case "ROWS":
		if ok = numberWithin(text, "1", "1000"); ok {
			fmt.Sscan(text, &q.limit)
		}
	default:
		ok = sort == text
	}
	return ok
}

// readByWords is what Parse must answer: the question, or a fault.
func readByWords(s string) (told, *api.Fault) {
	q := told{}
	at, place := 0, "func"
	for {
		at += len(blanks.FindString(s[at:]))
		text := onePart.FindString(s[at:])
		may := q.places()[place]
		behind := ""
		for sort, next := range may {
			if q.takes(sort, text) {
				behind = next
			}
		}
		if behind == "done" {
			return q, nil
		}
		if _, ok := may["MATCHERS"]; ok && behind == "" && strings.HasPrefix(text, "{") {
			_, err := match.Parse(text)
			var f *api.Fault
			errors.As(err, &f)
			return told{}, &api.Fault{At: at + f.At, Err: f.Err}
		}
		if behind == "" {
			return told{}, &api.Fault{At: at, Err: api.ErrAsk}
		}
		at, place = at+len(text), behind
	}
}

func (q told) span() (int64, int64) {
	from, to := int64(-1<<63), int64(1<<63-1)
	if q.from != "" {
		fmt.Sscan(q.from, &from)
	}
	if q.to != "" {
		fmt.Sscan(q.to, &to)
	}
	return from, to
}

// rows is what Run must answer.
func (q told) rows(l []api.Series) []api.Row {
	set, _ := match.New(q.matchers)
	from, to := q.span()
	labels, samples := map[string][]api.Label{}, map[string][]api.Sample{}
	for _, s := range l {
		mine := slices.Clone(s.Labels)
		if len(q.names) > 0 {
			mine = nil
			for _, name := range slices.Sorted(slices.Values(q.names)) {
				if i := slices.IndexFunc(s.Labels, func(one api.Label) bool { return one.Name == name }); i >= 0 && s.Labels[i].Value != "" {
					mine = append(mine, s.Labels[i])
				}
			}
		}
		for _, one := range s.Samples {
			if set.Holds(s.Labels) && one.T >= from && one.T <= to {
				key := fmt.Sprintf("%q", mine)
				labels[key] = mine
				samples[key] = append(samples[key], one)
			}
		}
	}
	var rows []api.Row
	for key, mine := range labels {
		rows = append(rows, api.Row{Labels: mine, N: numberByWords(q.word, samples[key])})
	}
	slices.SortFunc(rows, func(a, b api.Row) int { return label.Cmp(a.Labels, b.Labels) })
	if q.limit > 0 && len(rows) > q.limit {
		rows = rows[:q.limit]
	}
	return rows
}

func numberByWords(word string, l []api.Sample) uint64 {
	kept := l[0]
	unlike := map[uint64]bool{}
	for _, one := range l {
		unlike[one.V] = true
		better := map[string]bool{
			"first": one.T < kept.T || one.T == kept.T && one.V < kept.V,
			"last":  one.T > kept.T || one.T == kept.T && one.V > kept.V,
			"least": one.V < kept.V,
			"most":  one.V > kept.V,
		}[word]
		if better {
			kept = one
		}
	}
	switch word {
	case "count":
		return uint64(len(l))
	case "distinct":
		return uint64(len(unlike))
	}
	return kept.V
}

// sameText fails if Parse does not answer by the words.
func sameText(t *testing.T, s string) {
	t.Helper()
	want, wrong := readByWords(s)
	q, err := Parse(s)
	if wrong != nil {
		got, ok := err.(*api.Fault)
		if q != nil || !ok || *got != *wrong {
			t.Errorf("S1: Parse(%q): %v, %v; want %v", s, q, err, wrong)
		}
		return
	}
	if err != nil || q == nil {
		t.Errorf("S1: Parse(%q): %v; want a question", s, err)
		return
	}
	from, to := want.span()
	gotFrom, gotTo := q.Span()
	if q.Print() != want.print() || !slices.Equal(q.Set().List(), want.matchers) || gotFrom != from || gotTo != to {
		t.Errorf("S1, S2: Parse(%q) is %q, %v, %d, %d; want %q", s, q.Print(), q.Set().List(), gotFrom, gotTo, want.print())
	}
}

// sameRows fails if Run does not answer by the words.
func sameRows(t *testing.T, s string, l []api.Series) {
	t.Helper()
	q := parsed(t, s)
	want, _ := readByWords(s)
	equalRows(t, s, Run(q, l), want.rows(l))
}

func equalRows(t *testing.T, what string, got, want []api.Row) {
	t.Helper()
	same := slices.EqualFunc(got, want, func(a, b api.Row) bool { return a.N == b.N && slices.Equal(a.Labels, b.Labels) })
	if !same {
		t.Errorf("S3: %s: %v; want %v", what, got, want)
	}
}

func parsed(t *testing.T, s string) *Query {
	t.Helper()
	q, err := Parse(s)
	if q == nil || err != nil {
		t.Fatalf("S1: Parse(%q): %v", s, err)
	}
	return q
}

func pick(r *rand.Rand, l ...string) string {
	return l[r.Intn(len(l))]
}

// someQuestion is a right one, in one of the many forms it may have.
func someQuestion(r *rand.Rand) string {
	l := []string{pick(r, "first", "last", "count", "least", "most", "distinct")}
	if r.Intn(2) == 0 {
		names := []string{"a", "b", "c", "d_1", "E", "_", "by", "from"}
		r.Shuffle(len(names), func(i, j int) { names[i], names[j] = names[j], names[i] })
		l = append(l, "by", "(", strings.Join(names[:1+r.Intn(8)], pick(r, ",", ", ", " ,", "  ,  ")), ")")
	}
	l = append(l, pick(r, `{}`, `{ }`, `{a="x"}`, `{a!="y",b=""}`, `{ b =~ "1|2" , a!~"y.*" }`, `{a="}\"{"}`, `{a!="\\"}`, `{c="",d_1!~"[^v]"}`))
	for _, word := range []string{"from", "to"} {
		if r.Intn(2) == 0 {
			l = append(l, word, pick(r, "0", "1", "-1", "2", "3", "-3", "5", "-9223372036854775808", "9223372036854775807"))
		}
	}
	if r.Intn(2) == 0 {
		l = append(l, "limit", pick(r, "1", "2", "3", "10", "999", "1000"))
	}
	return joinedLoosely(r, l)
}

// joinedLoosely puts blanks where some must stand, and some where they may.
func joinedLoosely(r *rand.Rand, l []string) string {
	out := strings.Repeat(" ", r.Intn(2))
	for i, text := range l {
		if i > 0 && onePart.FindString(out[len(out)-1:]+text) != out[len(out)-1:] && out[len(out)-1] != '}' {
			out += " "
		}
		out += strings.Repeat(" ", r.Intn(3)/2) + text
	}
	return out + strings.Repeat(" ", r.Intn(2))
}

func someSeries(r *rand.Rand) []api.Series {
	l := make([]api.Series, r.Intn(7))
	for i := range l {
		for _, name := range []string{"a", "b", "c", "d_1"} {
			if r.Intn(2) == 0 {
				l[i].Labels = append(l[i].Labels, api.Label{Name: name, Value: pick(r, "x", "y", "1", "2", "v")})
			}
		}
		for range r.Intn(5) {
			l[i].Samples = append(l[i].Samples, api.Sample{T: int64(r.Intn(9) - 4), V: uint64(r.Intn(4))})
		}
	}
	return l
}
