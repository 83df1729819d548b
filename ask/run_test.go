package ask

import (
	"math"
	"math/rand"
	"reflect"
	"slices"
	"strconv"
	"strings"
	"sync"
	"testing"

	"turnkey/api"
	"turnkey/label"
)

func labels(l ...string) []api.Label {
	var out []api.Label
	for i := 0; i+1 < len(l); i += 2 {
		out = append(out, api.Label{Name: l[i], Value: l[i+1]})
	}
	return out
}

func row(n uint64, l ...string) api.Row {
	return api.Row{Labels: labels(l...), N: n}
}

func chapterSeries() []api.Series {
	return []api.Series{
		{Labels: labels("a", "x", "b", "1"), Samples: []api.Sample{{T: 10, V: 5}, {T: 20, V: 7}}},
		{Labels: labels("a", "x", "b", "2"), Samples: []api.Sample{{T: 15, V: 5}}},
		{Labels: labels("a", "y"), Samples: []api.Sample{{T: 30, V: 0}}},
	}
}

func copied(l []api.Series) []api.Series {
	out := make([]api.Series, len(l))
	for i, s := range l {
		out[i] = api.Series{Labels: slices.Clone(s.Labels), Samples: slices.Clone(s.Samples)}
	}
	return out
}

func TestRunsOfTheChapter(t *testing.T) {
	for s, want := range map[string][]api.Row{
		"count {}":                          {row(2, "a", "x", "b", "1"), row(1, "a", "x", "b", "2"), row(1, "a", "y")},
		"count by (a) {}":                   {row(3, "a", "x"), row(1, "a", "y")},
		"distinct by (a) {} limit 1":        {row(2, "a", "x")},
		"last by (c) {}":                    {row(0)},
		`most {a="x"} from 11 to 19`:        {row(5, "a", "x", "b", "2")},
		`least by (b, a) {b!=""}`:           {row(5, "a", "x", "b", "1"), row(5, "a", "x", "b", "2")},
		"first by (c) {}":                   {row(5)},
		"most by (c) {}":                    {row(7)},
		"least by (c) {}":                   {row(0)},
		"distinct by (c) {}":                {row(3)},
		"count by (c) {}":                   {row(4)},
		"last by (a) {}":                    {row(7, "a", "x"), row(0, "a", "y")},
		"count by (b) {}":                   {row(1), row(2, "b", "1"), row(1, "b", "2")},
		"count by (b, c) {} limit 2":        {row(1), row(2, "b", "1")},
		"first {} limit 2":                  {row(5, "a", "x", "b", "1"), row(5, "a", "x", "b", "2")},
		"count {} limit 3":                  {row(2, "a", "x", "b", "1"), row(1, "a", "x", "b", "2"), row(1, "a", "y")},
		"count {} limit 4":                  {row(2, "a", "x", "b", "1"), row(1, "a", "x", "b", "2"), row(1, "a", "y")},
		`count {a="q"}`:                     nil,
		`count {b=""}`:                      {row(1, "a", "y")},
		`count by (b) {b=~"1|"}`:            {row(1), row(2, "b", "1")},
		"count {} from 31":                  nil,
		"count {} to 9":                     nil,
		"count {} from 20 to 10":            nil,
		"count by (c) {} from 10 to 30":     {row(4)},
		"count by (c) {} from 11 to 30":     {row(3)},
		"count by (c) {} from 10 to 29":     {row(3)},
		"count by (c) {} from 20 to 20":     {row(1)},
		"last by (a) {} to 15":              {row(5, "a", "x")},
		"count {} from 16 limit 1":          {row(1, "a", "x", "b", "1")},
		"first by (a) {} from 16":           {row(7, "a", "x"), row(0, "a", "y")},
		`distinct by (a) {b=~"[12]"} to 15`: {row(1, "a", "x")},
	} {
		equalRows(t, s, Run(parsed(t, s), chapterSeries()), want)
		sameRows(t, s, chapterSeries())
	}
}

func TestSamplesOfOneTime(t *testing.T) {
	l := []api.Series{
		{Labels: labels("a", "x"), Samples: []api.Sample{{T: 5, V: 9}, {T: 6, V: 2}, {T: 4, V: 1 << 62}}},
		{Labels: labels("a", "y"), Samples: []api.Sample{{T: 6, V: 1 << 63}, {T: 4, V: 8}}},
		{Labels: labels("a", "z"), Samples: []api.Sample{{T: 4, V: 1 << 63}, {T: 6, V: 3}, {T: 5, V: 0}, {T: 5, V: 9}}},
	}
	for word, n := range map[string]uint64{"first": 8, "last": 1 << 63, "least": 0, "most": 1 << 63, "count": 9, "distinct": 7} {
		equalRows(t, word, Run(parsed(t, word+" by (q) {}"), l), []api.Row{row(n)})
		sameRows(t, word+" {}", l)
	}
}

func TestUttermostTimesAndValues(t *testing.T) {
	l := []api.Series{{Labels: labels("a", "x"), Samples: []api.Sample{{T: 0, V: 1}, {T: math.MaxInt64, V: 0}, {T: math.MinInt64, V: math.MaxUint64}}}}
	for s, n := range map[string]uint64{
		"count {}": 3, "first {}": math.MaxUint64, "last {}": 0, "least {}": 0, "most {}": math.MaxUint64, "distinct {}": 3,
		"count {} from -9223372036854775807": 2, "count {} to 9223372036854775806": 2, "count {} from 9223372036854775807": 1, "count {} to -9223372036854775808": 1,
		"count {} from -9223372036854775808 to 9223372036854775807": 3, "most {} from -9223372036854775807": 1, "last {} to 9223372036854775806": 1,
	} {
		equalRows(t, s, Run(parsed(t, s), l), []api.Row{row(n, "a", "x")})
	}
}

func TestSeriesThatCountNoMore(t *testing.T) {
	l := []api.Series{{Labels: labels("a", "x")}, {Labels: labels("a", "y"), Samples: []api.Sample{{T: 1, V: 1}}}, {Labels: labels("a", "z"), Samples: []api.Sample{{T: 9, V: 1}}}}
	for s, want := range map[string][]api.Row{
		"count {}": {row(1, "a", "y"), row(1, "a", "z")}, "count by (a) {} to 8": {row(1, "a", "y")}, "count by (b) {} from 2 to 8": nil, "count {} from 9 limit 1": {row(1, "a", "z")},
	} {
		equalRows(t, s, Run(parsed(t, s), l), want)
	}
	for _, none := range [][]api.Series{nil, {}, {{}}, {{Labels: labels("a", "x")}}} {
		if got := Run(parsed(t, "count by (b) {}"), none); len(got) != 0 {
			t.Errorf("S3: of no samples: %v", got)
		}
	}
}

func TestSeriesWithTheSameLabelsAreOne(t *testing.T) {
	l := []api.Series{
		{Labels: labels("a", "x"), Samples: []api.Sample{{T: 3, V: 3}}},
		{Labels: labels("a", "x", "b", "1"), Samples: []api.Sample{{T: 1, V: 1}}},
		{Labels: labels("a", "x"), Samples: []api.Sample{{T: 1, V: 9}}},
		{Samples: []api.Sample{{T: 0, V: 4}}},
		{Labels: labels("a", "x"), Samples: []api.Sample{{T: 3, V: 3}}},
		{Labels: []api.Label{}, Samples: []api.Sample{{T: 0, V: 5}}},
	}
	for s, want := range map[string][]api.Row{
		"count {}":    {row(2), row(3, "a", "x"), row(1, "a", "x", "b", "1")},
		"distinct {}": {row(2), row(2, "a", "x"), row(1, "a", "x", "b", "1")},
		"first {}":    {row(4), row(9, "a", "x"), row(1, "a", "x", "b", "1")},
		"last {}":     {row(5), row(3, "a", "x"), row(1, "a", "x", "b", "1")},
	} {
		equalRows(t, s, Run(parsed(t, s), l), want)
		sameRows(t, s, l)
	}
}

// Values that differ only in where they are cut, or under which name they stand, are of groups of their own.
func TestGroupsAreToldApart(t *testing.T) {
	one := []api.Sample{{T: 1, V: 1}}
	l := []api.Series{
		{Labels: labels("a", "xy", "b", "z"), Samples: one}, {Labels: labels("a", "x", "b", "yz"), Samples: one},
		{Labels: labels("a", "x"), Samples: one}, {Labels: labels("b", "x"), Samples: one}, {Labels: labels("c", "x"), Samples: one},
		{Labels: labels("a", `x",b="y`), Samples: one}, {Labels: labels("a", "x", "b", "y"), Samples: one}, {Labels: labels("a", "x", "c", "y"), Samples: one},
	}
	equalRows(t, "by a and b", Run(parsed(t, "count by (b, a) {}"), l), []api.Row{
		row(1), row(2, "a", "x"), row(1, "a", "x", "b", "y"), row(1, "a", "x", "b", "yz"), row(1, "a", `x",b="y`), row(1, "a", "xy", "b", "z"), row(1, "b", "x"),
	})
	if got := Run(parsed(t, "count {}"), l); len(got) != len(l) {
		t.Errorf("S3: %d groups of %d series", len(got), len(l))
	}
}

// Lists of labels that are no right sets are taken as they stand there.
func TestAnyLabels(t *testing.T) {
	one := []api.Sample{{T: 1, V: 1}}
	many := make([]string, 0, 40)
	for i := range 20 {
		many = append(many, "n"+strconv.Itoa(i), "v")
	}
	l := []api.Series{
		{Labels: labels("b", "1", "a", "x"), Samples: one}, {Labels: labels("a", "x", "b", "1"), Samples: one}, {Labels: labels("a", "x", "a", "y"), Samples: one},
		{Labels: labels("a", ""), Samples: one}, {Labels: labels("", "", "1", "\xff"), Samples: one}, {Labels: labels("a", strings.Repeat("v", 1000)), Samples: one}, {Labels: labels(many...), Samples: one},
	}
	for _, s := range []string{"count {}", "count by (a) {}", "count by (b, a) {}", `count {a="x"}`, `count {a=""}`, "count by (n3) {}", "count by (a) {} limit 2"} {
		sameRows(t, s, l)
	}
	equalRows(t, "by a", Run(parsed(t, "count by (a) {}"), l), []api.Row{row(3), row(1, "a", strings.Repeat("v", 1000)), row(3, "a", "x")})
}

func TestRunsByTheWords(t *testing.T) {
	r := rand.New(rand.NewSource(3))
	some := 0
	for range 20000 {
		s, l := someQuestion(r), someSeries(r)
		sameRows(t, s, l)
		if len(Run(parsed(t, s), l)) > 1 {
			some++
		}
	}
	if some < 1000 {
		t.Errorf("only %d answers have rows", some)
	}
}

func TestOrderChangesNothing(t *testing.T) {
	r := rand.New(rand.NewSource(4))
	for range 2000 {
		q, l := parsed(t, someQuestion(r)), someSeries(r)
		want := Run(q, l)
		r.Shuffle(len(l), func(i, j int) { l[i], l[j] = l[j], l[i] })
		for _, s := range l {
			r.Shuffle(len(s.Samples), func(i, j int) { s.Samples[i], s.Samples[j] = s.Samples[j], s.Samples[i] })
		}
		equalRows(t, q.Print(), Run(q, l), want)
	}
}

func TestOthersChangeNothing(t *testing.T) {
	r := rand.New(rand.NewSource(5))
	for range 2000 {
		q, l := parsed(t, someQuestion(r)), append(someSeries(r), someSeries(r)...)
		alone := slices.DeleteFunc(copied(l), func(s api.Series) bool { return !q.Set().Holds(s.Labels) })
		equalRows(t, q.Print(), Run(q, alone), Run(q, l))
	}
}

func TestCountsOfLessNamesAreSums(t *testing.T) {
	r := rand.New(rand.NewSource(6))
	for range 2000 {
		l := someSeries(r)
		sums := map[string]uint64{}
		for _, one := range Run(parsed(t, "count by (a, b, c) {}"), l) {
			sums[label.Get(one.Labels, "b")] += one.N
		}
		less := Run(parsed(t, "count by (b) {}"), l)
		if len(less) != len(sums) {
			t.Errorf("S3: %d rows; want %d", len(less), len(sums))
		}
		for _, one := range less {
			if sums[label.Get(one.Labels, "b")] != one.N {
				t.Errorf("S3: %v; want %d", one, sums[label.Get(one.Labels, "b")])
			}
		}
	}
}

func TestManySeries(t *testing.T) {
	var l []api.Series
	for i := range 3000 {
		l = append(l, api.Series{Labels: labels("a", strconv.Itoa(i%1500), "b", strconv.Itoa(i)), Samples: []api.Sample{{T: int64(i), V: uint64(i)}}})
	}
	for s, rows := range map[string]int{"count {}": 3000, "count {} limit 1000": 1000, "most by (a) {}": 1500, "most by (a) {} limit 999": 999, "last by (c) {} limit 1": 1} {
		if got := Run(parsed(t, s), l); len(got) != rows {
			t.Errorf("S3: %q: %d rows; want %d", s, len(got), rows)
		}
		sameRows(t, s, l)
	}
}

func TestRunWritesIntoNothing(t *testing.T) {
	back := slices.Repeat([]api.Sample{{T: 7, V: 7}}, 8)
	named := slices.Repeat(labels("a", "x"), 8)
	l := []api.Series{{Labels: named[:1], Samples: back[:2]}, {Labels: named[1:2], Samples: back[3:5]}, {Labels: labels("a", "w"), Samples: []api.Sample{{T: 9, V: 1}, {T: 2, V: 3}}}}
	was := copied(l)
	for _, s := range []string{"count {}", "first by (a) {}", "distinct by (b) {}", "last {} limit 1", "most {} from 3"} {
		Run(parsed(t, s), l)
		if !reflect.DeepEqual(l, was) {
			t.Fatalf("P3: %q changes what is handed in", s)
		}
	}
	if !slices.Equal(back, slices.Repeat([]api.Sample{{T: 7, V: 7}}, 8)) || !slices.Equal(named, slices.Repeat(labels("a", "x"), 8)) {
		t.Errorf("P3: what stands behind a list is changed")
	}
}

// scribble writes over an answer, and over the spare room of its lists.
func scribble(rows []api.Row) {
	for i := range rows {
		spare := rows[i].Labels[:cap(rows[i].Labels)]
		for k := range spare {
			spare[k] = api.Label{Name: "!", Value: "!"}
		}
	}
	for i := range rows[:cap(rows)] {
		rows[:cap(rows)][i] = api.Row{N: 99}
	}
}

func TestRowsAreTheCallers(t *testing.T) {
	l := chapterSeries()
	was := copied(l)
	for _, s := range []string{"count {}", "count by (b, a) {}", "count by (c) {}", "count {} limit 1"} {
		q := parsed(t, s)
		first, second := Run(q, l), Run(q, l)
		kept := make([]api.Row, len(second))
		for i, one := range second {
			kept[i] = api.Row{Labels: slices.Clone(one.Labels), N: one.N}
		}
		for i := range first { // one list at a time, so that a row which shares its neighbour's memory shows
			scribble(first[i : i+1 : i+1])
			equalRows(t, s, first[i+1:], kept[i+1:])
		}
		scribble(first)
		equalRows(t, s, second, kept)
		equalRows(t, s, Run(q, l), kept)
		if !reflect.DeepEqual(l, was) {
			t.Fatalf("P3: the rows of %q are what was handed in", s)
		}
	}
}

func TestAQuestionIsNotUsedUp(t *testing.T) {
	q := parsed(t, `distinct by (a) {a!="q"} from 5 limit 2`)
	want := Run(q, chapterSeries())
	var all sync.WaitGroup
	for range 8 {
		all.Go(func() {
			for range 50 {
				got := Run(q, chapterSeries())
				if !reflect.DeepEqual(got, want) || q.Print() != `distinct by (a) {a!="q"} from 5 limit 2` || len(q.Set().List()) != 1 {
					t.Errorf("P4: %v; want %v", got, want)
				}
			}
		})
	}
	all.Wait()
}
