package ask

import (
	"errors"
	"math"
	"slices"
	"strconv"
	"strings"

	"turnkey/api"
	"turnkey/label"
	"turnkey/match"
)

// Parse reads one; an error is an *api.Fault (S1).
func Parse(s string) (q *Query, err error) {
	defer func() {
		// Nothing but a reader's fault is given up so: whatever else it were, the assertion would not hide it.
		if wrong := recover(); wrong != nil {
			q, err = nil, wrong.(*api.Fault)
		}
	}()
	r := &reader{text: s, next: partFrom(s, 0)}
	return r.question(), nil
}

// reader goes through a text from part to part. What is wrong it gives up by a panic with the fault, which Parse catches: so what lies between need not hand it on.
type reader struct {
	text string
	next part
}

func (r *reader) question() *Query {
	q := &Query{}
	q.word, q.number = r.wanted()
	if r.skip("by") {
		q.names = r.names()
	}
	q.set = r.matchers()
	q.from = r.moment("from")
	q.to = r.moment("to")
	if r.skip("limit") {
		q.limit = int(r.whole(1, api.MaxRows))
	}
	r.end()
	return q
}

func (r *reader) wanted() (string, func(l []api.Sample) uint64) {
	number := numberOf(r.next.text)
	if number == nil {
		r.refuse()
	}
	return r.take(), number
}

func (r *reader) names() []string {
	r.want("(")
	l := []string{r.name(nil)}
	// Behind the last name that may be it is the comma that can't stand there.
	for len(l) < api.MaxLabels && r.skip(",") {
		l = append(l, r.name(l))
	}
	r.want(")")
	slices.Sort(l)
	return l
}

func (r *reader) name(ahead []string) string {
	if !isName(r.next.text) || slices.Contains(ahead, r.next.text) {
		r.refuse()
	}
	return r.take()
}

func (r *reader) matchers() *match.Set {
	if !strings.HasPrefix(r.next.text, "{") {
		r.refuse()
	}
	l, err := match.Parse(r.next.text)
	var wrong *api.Fault
	if errors.As(err, &wrong) {
		panic(&api.Fault{At: r.next.at + wrong.At, Err: wrong.Err})
	}
	r.take()
	set, _ := match.New(l)
	return set
}

func (r *reader) moment(word string) moment {
	if !r.skip(word) {
		return moment{}
	}
	return moment{given: true, t: r.whole(math.MinInt64, math.MaxInt64)}
}

// whole takes a number that is written in its one form.
func (r *reader) whole(least, most int64) int64 {
	n, err := strconv.ParseInt(r.next.text, 10, 64)
	if err != nil || strconv.FormatInt(n, 10) != r.next.text || n < least || n > most {
		r.refuse()
	}
	r.take()
	return n
}

func (r *reader) end() {
	if r.next.text != "" {
		r.refuse()
	}
}

func (r *reader) want(text string) {
	if !r.skip(text) {
		r.refuse()
	}
}

// skip answers false, and stays, where another part stands.
func (r *reader) skip(text string) bool {
	if r.next.text != text {
		return false
	}
	r.take()
	return true
}

func (r *reader) take() string {
	taken := r.next
	r.next = partFrom(r.text, taken.at+len(taken.text))
	return taken.text
}

func (r *reader) refuse() {
	panic(&api.Fault{At: r.next.at, Err: api.ErrAsk})
}

func isName(s string) bool {
	return label.Right([]api.Label{{Name: s, Value: "x"}}) == api.OK
}
