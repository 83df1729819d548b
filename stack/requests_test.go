package stack

import (
	"fmt"
	"math"
	"math/rand"
	"testing"

	"turnkey/api"
	"turnkey/wire"
)

func encoded(t *testing.T, q api.Request) []byte {
	t.Helper()
	raw, e := wire.Encode(q)
	if e != api.OK {
		t.Fatalf("no request: %v", q)
	}
	return raw
}

func by(token string, kind int, name string) api.Request {
	return api.Request{Kind: kind, Tenant: name, Token: []byte(token)}
}

func makes(name string, series, samples int) api.Request {
	q := by("op", api.KindMake, name)
	q.Series, q.Samples = series, samples
	return q
}

func drops(name string) api.Request { return by("op", api.KindDrop, name) }

func grants(name, token string, rights int, policy ...api.Matcher) api.Request {
	q := by("op", api.KindGrant, name)
	q.Bears, q.Rights, q.Matchers = []byte(token), rights, policy
	return q
}

func revokes(name, token string) api.Request {
	q := by("op", api.KindRevoke, name)
	q.Bears = []byte(token)
	return q
}

func writes(token, name string, l ...api.Series) api.Request {
	q := by(token, api.KindWrite, name)
	q.Writes = l
	return q
}

func counts(token, name string, l ...api.Matcher) api.Request {
	q := by(token, api.KindCount, name)
	q.Matchers = l
	return q
}

func queries(token, name string, from, to int64, l ...api.Matcher) api.Request {
	q := by(token, api.KindQuery, name)
	q.From, q.To, q.Matchers = from, to, l
	return q
}

func asks(token, name, question string) api.Request {
	q := by(token, api.KindAsk, name)
	q.Question = question
	return q
}

func valuesOf(token, name, of string, l ...api.Matcher) api.Request {
	q := by(token, api.KindValues, name)
	q.Name, q.Matchers = of, l
	return q
}

func isNot(name, text string) api.Matcher { return api.Matcher{Name: name, Op: api.OpNot, Text: text} }

// labels makes labels of names and values in turn.
func labels(words ...string) []api.Label {
	var out []api.Label
	for i := 0; i < len(words); i += 2 {
		out = append(out, api.Label{Name: words[i], Value: words[i+1]})
	}
	return out
}

func with(l []api.Label, times ...int64) api.Series {
	s := api.Series{Labels: l}
	for _, time := range times {
		s.Samples = append(s.Samples, api.Sample{T: time, V: uint64(time)})
	}
	return s
}

func a(value string, times ...int64) api.Series { return with(labels("a", value), times...) }

// wide is so many samples that take as many bits as samples can.
func wide(r *rand.Rand, l []api.Label, from int64, count int) api.Series {
	s := api.Series{Labels: l}
	for range count {
		from += 1 + r.Int63n(1<<40)
		s.Samples = append(s.Samples, api.Sample{T: from, V: r.Uint64()})
	}
	return s
}

func pick[T any](r *rand.Rand, l ...T) T { return l[r.Intn(len(l))] }

// often is the usual thing, but for one time in so many.
func often[T any](r *rand.Rand, seldom int, usual T, l ...T) T {
	if r.Intn(seldom) == 0 {
		return pick(r, l...)
	}
	return usual
}

func someLabels(r *rand.Rand) []api.Label {
	usual := pick(r, labels("a", "x"), labels("a", "y"), labels("a", "x", "b", "1"), labels("b", "2"), labels("b", "é\"", "c", "z"), labels("a", fmt.Sprint(r.Intn(100)), "d", "some longer text"))
	return often(r, 60, usual, nil, labels("b", "1", "a", "x"), labels("a", ""))
}

func someMatchers(r *rand.Rand) []api.Matcher {
	var out []api.Matcher
	for range pick(r, 0, 0, 0, 1, 1, 2) {
		name := pick(r, "a", "b", "c", "none")
		one := api.Matcher{Name: name, Op: 1 + r.Intn(2), Text: pick(r, "x", "1", "", "é\"")}
		if r.Intn(3) == 0 {
			one = api.Matcher{Name: name, Op: 3 + r.Intn(2), Text: pick(r, "x|1", ".*", ".", "[xy]?")}
		}
		out = append(out, often(r, 40, one, api.Matcher{Name: "1", Op: 1}, api.Matcher{Name: name, Op: 3, Text: "("}))
	}
	return out
}

func someQuestion(r *rand.Rand) string {
	return pick(r, "first", "last", "count", "least", "most", "distinct", "sum") +
		pick(r, "", " by (a)", " by (b, c)") +
		pick(r, " {}", ` {a="x"}`, ` {b!=""}`, ` {a=~"x|y", c=""}`, " {a}") +
		pick(r, "", " from 3", " from -2 to 2000", " from 9 to 3") +
		pick(r, "", "", " limit 1")
}

func someWrites(r *rand.Rand, clock int64) []api.Series {
	var out []api.Series
	for range pick(r, 1, 1, 1, 2, 3) {
		s := api.Series{Labels: someLabels(r)}
		time := clock - int64(r.Intn(12))
		for range pick(r, 1, 1, 2, 5) {
			time += often(r, 30, int64(1+r.Intn(4)), 0, -3, 1<<40)
			s.Samples = append(s.Samples, api.Sample{T: time, V: pick(r, 0, uint64(time), r.Uint64())})
		}
		out = append(out, s)
	}
	return out
}

// someRequest names a tenant, which mostly may be; times are about a clock, so that some rise, and some do not.
func someRequest(r *rand.Rand, tenant string, clock int64) api.Request {
	q := by(often(r, 9, "k", "e", "w", "z", "", "op"), 0, often(r, 60, tenant, "T?", "", "nobody"))
	kind := r.Intn(20)
	switch kind {
	case 0, 1, 2, 3, 4, 5, 6:
		q.Kind, q.Writes = api.KindWrite, someWrites(r, clock)
	case 7, 8:
		q.Kind, q.Matchers = api.KindQuery, someMatchers(r)
		q.From, q.To = pick[int64](r, math.MinInt64, 0, clock-5), pick[int64](r, math.MaxInt64, clock, 3)
	case 9, 10:
		q.Kind, q.Question = api.KindAsk, someQuestion(r)
	case 11, 12, 13:
		q.Kind, q.Matchers = pick(r, api.KindCount, api.KindNames, api.KindValues), someMatchers(r)
		if q.Kind == api.KindValues {
			q.Name = pick(r, "a", "b", "none", "no name!")
		}
	case 14:
		q.Kind = often(r, 4, api.KindCount, api.KindRemove)
	default:
		return someDecree(r, q, kind)
	}
	return q
}

// someDecree is one of the operator's.
func someDecree(r *rand.Rand, q api.Request, kind int) api.Request {
	q.Token = []byte(often(r, 20, "op", "k", "oq"))
	switch kind {
	case 15:
		q.Kind, q.Series, q.Samples = api.KindMake, often(r, 9, pick(r, 2, 4, 100), 0, 1000001), pick(r, 3, 10, 100)
	case 16:
		q.Kind = often(r, 5, api.KindMake, api.KindDrop)
		if q.Kind == api.KindMake {
			q.Series, q.Samples = 4, 30
		}
	case 17:
		q.Kind, q.Bears = api.KindRevoke, []byte(often(r, 4, fmt.Sprint("g", r.Intn(20)), "k", "e", "w", ""))
	default:
		q.Kind, q.Rights = api.KindGrant, often(r, 9, pick(r, 15, 15, 6, 1, 9), 0, 16)
		q.Bears, q.Matchers = []byte(pick(r, "k", "k", "e", "w", "", fmt.Sprint("g", r.Intn(20)))), someMatchers(r)
		if string(q.Bears) == "k" {
			q.Rights, q.Matchers = 15, nil
		}
	}
	return q
}
