package ask

import (
	"errors"
	"fmt"
	"math"
	"math/rand"
	"slices"
	"strings"
	"testing"
	"time"

	"turnkey/api"
	"turnkey/match"
)

func TestPrintIsTheOneForm(t *testing.T) {
	for s, want := range map[string]string{
		`least by (b, a) {b!=""}`: `least by (a, b) {b!=""}`,
		`least by(b,a){ b !="" }`: `least by (a, b) {b!=""}`,
		"  count  {}  ":           "count {}",
		"count{}":                 "count {}",
		"last   by   (   a   )   {   }   limit   7 ":                "last by (a) {} limit 7",
		"count{}from 1 to -2 limit 10":                              "count {} from 1 to -2 limit 10",
		"count{}limit 1000":                                         "count {} limit 1000",
		"most {} to 0":                                              "most {} to 0",
		"distinct {} from 0":                                        "distinct {} from 0",
		"first {a=\"}\",b=\"\\\"}\"} to 0":                          "first {a=\"}\", b=\"\\\"}\"} to 0",
		`count {b="1",a="2",b="1"}`:                                 `count {b="1", a="2", b="1"}`,
		`count {a=~"[cba]"}`:                                        `count {a=~"[cba]"}`,
		"count by (by, from, to, limit, count) {}":                  "count by (by, count, from, limit, to) {}",
		"count by (b, B, _, b1, b_, a9) {}":                         "count by (B, _, a9, b, b1, b_) {}",
		"count {} from -9223372036854775808 to 9223372036854775807": "count {} from -9223372036854775808 to 9223372036854775807",
	} {
		if q := parsed(t, s); q.Print() != want {
			t.Errorf("S1: Print of %q is %q; want %q", s, q.Print(), want)
		}
		if q := parsed(t, want); q.Print() != want {
			t.Errorf("S1: Print of %q is %q", want, q.Print())
		}
		sameText(t, s)
	}
}

func TestParseTellsThePlace(t *testing.T) {
	nine := "count by (a,b,c,d,e,f,g,h,i) {}"
	long := strings.Repeat("n", 33)
	for s, want := range map[string]api.Fault{
		"": {At: 0, Err: api.ErrAsk}, "   ": {At: 3, Err: api.ErrAsk}, "sum {}": {At: 0, Err: api.ErrAsk}, " sum {}": {At: 1, Err: api.ErrAsk},
		"Count {}": {At: 0, Err: api.ErrAsk}, "count1 {}": {At: 0, Err: api.ErrAsk}, "count- {}": {At: 0, Err: api.ErrAsk}, "countby (a) {}": {At: 0, Err: api.ErrAsk}, "{}": {At: 0, Err: api.ErrAsk}, "{a": {At: 0, Err: api.ErrAsk},
		"count": {At: 5, Err: api.ErrAsk}, "count  ": {At: 7, Err: api.ErrAsk}, "count count {}": {At: 6, Err: api.ErrAsk}, "count }": {At: 6, Err: api.ErrAsk},
		"count\t{}": {At: 5, Err: api.ErrAsk}, "count\n{}": {At: 5, Err: api.ErrAsk}, "count {}\x00": {At: 8, Err: api.ErrAsk}, "count \xff{}": {At: 6, Err: api.ErrAsk}, "count é{}": {At: 6, Err: api.ErrAsk},
		"count by": {At: 8, Err: api.ErrAsk}, "count by {}": {At: 9, Err: api.ErrAsk}, "count by a {}": {At: 9, Err: api.ErrAsk}, "count BY (a) {}": {At: 6, Err: api.ErrAsk}, "count (a) {}": {At: 6, Err: api.ErrAsk},
		"count by () {}": {At: 10, Err: api.ErrAsk}, "count by (": {At: 10, Err: api.ErrAsk}, "count by (,a) {}": {At: 10, Err: api.ErrAsk}, "count by (a": {At: 11, Err: api.ErrAsk}, "count by (a,) {}": {At: 12, Err: api.ErrAsk}, "count by (a,": {At: 12, Err: api.ErrAsk},
		"count by (a,,b) {}": {At: 12, Err: api.ErrAsk}, "count by (a b) {}": {At: 12, Err: api.ErrAsk}, "count by (a {}": {At: 12, Err: api.ErrAsk}, "count by (a, a) {}": {At: 13, Err: api.ErrAsk}, "count by (b,a,b) {}": {At: 14, Err: api.ErrAsk},
		"count by (1) {}": {At: 10, Err: api.ErrAsk}, "count by (a-b) {}": {At: 10, Err: api.ErrAsk}, "count by (-) {}": {At: 10, Err: api.ErrAsk}, "count by (" + long + ") {}": {At: 10, Err: api.ErrAsk}, `count by ("a") {}`: {At: 10, Err: api.ErrAsk}, "count by ({}) {}": {At: 10, Err: api.ErrAsk},
		nine: {At: 25, Err: api.ErrAsk}, "count by (a,b,c,d,e,f,g,h": {At: 25, Err: api.ErrAsk}, "count by (a) by (b) {}": {At: 13, Err: api.ErrAsk}, "count by (a)": {At: 12, Err: api.ErrAsk}, "count by (a) from 1": {At: 13, Err: api.ErrAsk}, "count by (a)) {}": {At: 12, Err: api.ErrAsk},
		"count from 1": {At: 6, Err: api.ErrAsk}, "count {} by (a)": {At: 9, Err: api.ErrAsk}, "count {} {}": {At: 9, Err: api.ErrAsk}, "count {} {a": {At: 9, Err: api.ErrAsk}, "count {} }": {At: 9, Err: api.ErrAsk}, "count {}}": {At: 8, Err: api.ErrAsk},
		"count {} from": {At: 13, Err: api.ErrAsk}, "count {} from ": {At: 14, Err: api.ErrAsk}, "count {} from x": {At: 14, Err: api.ErrAsk}, "count {} from to 1": {At: 14, Err: api.ErrAsk}, "count {} from5": {At: 9, Err: api.ErrAsk}, "count {} from-5": {At: 9, Err: api.ErrAsk},
		"count {} to": {At: 11, Err: api.ErrAsk}, "count {} to 1 from 2": {At: 14, Err: api.ErrAsk}, "count {} from 1 from 2": {At: 16, Err: api.ErrAsk}, "count {} to 1 to 2": {At: 14, Err: api.ErrAsk}, "count {} from 1 2": {At: 16, Err: api.ErrAsk}, "count {} from 1to 2": {At: 14, Err: api.ErrAsk},
		"count {} limit": {At: 14, Err: api.ErrAsk}, "count {} limit 5 limit 5": {At: 17, Err: api.ErrAsk}, "count {} limit 5 to 1": {At: 17, Err: api.ErrAsk}, "count {} limit 5 from 1": {At: 17, Err: api.ErrAsk}, "count {} limit 5,": {At: 16, Err: api.ErrAsk}, "count {} limit 5x": {At: 15, Err: api.ErrAsk},
		"count {a}": {At: 8, Err: api.ErrMatch}, `count {a="x"`: {At: 12, Err: api.ErrMatch}, `count {a="x"  `: {At: 14, Err: api.ErrMatch}, "count {": {At: 7, Err: api.ErrMatch}, `count {1="x"} from x`: {At: 7, Err: api.ErrMatch}, `count by (a) {b=~"("} x`: {At: 14, Err: api.ErrMatch},
		`count {a="}`: {At: 11, Err: api.ErrMatch}, `count {a="\`: {At: 11, Err: api.ErrMatch}, `count {a="\}"} x`: {At: 11, Err: api.ErrMatch}, `count {a="x}" from`: {At: 14, Err: api.ErrMatch}, `count {a="x\"} from 1`: {At: 21, Err: api.ErrMatch}, `count {{}`: {At: 7, Err: api.ErrMatch}, `sum {a}`: {At: 0, Err: api.ErrAsk},
		`count {a="1",b="1",c="1",d="1",e="1",f="1",g="1",h="1",i="1"}`: {At: 55, Err: api.ErrMatch},
	} {
		q, err := Parse(s)
		var got *api.Fault
		if q != nil || !errors.As(err, &got) || *got != want || !errors.Is(err, want.Err) {
			t.Errorf("S1: Parse(%q): %v, %v; want %v", s, q, err, &want)
		}
		sameText(t, s)
	}
}

func TestNumbersOfAQuestion(t *testing.T) {
	times := []string{"0", "1", "-1", "9", "10", "-10", "9223372036854775807", "-9223372036854775808"}
	none := []string{"-0", "00", "01", "-01", "--1", "-", "1-", "1_0", "_1", "0x1", "1e3", "9223372036854775808", "-9223372036854775809", "18446744073709551617", strings.Repeat("1", 400), "0-", "a", "-a"}
	for _, s := range times {
		for _, word := range []string{"from", "to"} {
			if got := parsed(t, "count {} "+word+" "+s).Print(); got != "count {} "+word+" "+s {
				t.Errorf("S1: %s %s is %q", word, s, got)
			}
		}
	}
	for _, s := range none {
		for _, word := range []string{"from", "to", "limit"} {
			at := len("count {} " + word + " ")
			refusedAt(t, "count {} "+word+" "+s, at)
		}
	}
	for _, s := range []string{"+1", "1.0", "(1)", "1,0"} { // these are parts of their own
		sameText(t, "count {} from "+s)
		sameText(t, "count {} limit "+s)
	}
	for n := -3; n <= 1010; n++ {
		s := fmt.Sprintf("count {} limit %d", n)
		if n < 1 || n > api.MaxRows {
			refusedAt(t, s, 15)
		} else if got := parsed(t, s).Print(); got != s {
			t.Errorf("S1: %q is %q", s, got)
		}
	}
}

func refusedAt(t *testing.T, s string, at int) {
	t.Helper()
	q, err := Parse(s)
	if got, ok := err.(*api.Fault); q != nil || !ok || *got != (api.Fault{At: at, Err: api.ErrAsk}) {
		t.Errorf("S1: Parse(%q): %v, %v; want ErrAsk at %d", s, q, err, at)
	}
}

func TestNamesOfAQuestion(t *testing.T) {
	for c := range 256 {
		sameText(t, "count by ("+string([]byte{byte(c)})+") {}")
		sameText(t, "count by (a"+string([]byte{byte(c)})+") {}")
	}
	most := strings.Repeat("n", api.MaxLabel)
	if got := parsed(t, "count by ("+most+") {}").Print(); got != "count by ("+most+") {}" {
		t.Errorf("S1: a name of %d bytes: %q", api.MaxLabel, got)
	}
	refusedAt(t, "count by (a, "+most+"n) {}", 13)
	var names []string
	for i := range 12 {
		names = append(names, fmt.Sprint("n", i))
		s := "count by (" + strings.Join(names, ", ") + ") {}"
		if i < api.MaxLabels {
			parsed(t, s)
			for k := range i { // a name that was there, at each place
				twice := slices.Clone(names)
				twice[i] = names[k]
				refusedAt(t, "count by ("+strings.Join(twice, ", ")+") {}", 10+4*i)
			}
		} else {
			refusedAt(t, s, 10+4*api.MaxLabels-2)
		}
	}
	parsed(t, "count by (a, A) {}") // sizes of letters are told apart
}

func TestEveryBeginning(t *testing.T) {
	for _, s := range []string{
		`distinct by (b, a) {a=~"x|\"}", b!=""} from -12 to 34 limit 100 `,
		`  least{a="}{\\"}to 0`,
		`count by(a,b,c,d,e,f,g,h){}limit 1000`,
	} {
		parsed(t, s)
		for i := range s {
			sameText(t, s[:i])
			sameText(t, s[i:])
		}
	}
}

func TestEveryByteAtEveryPlace(t *testing.T) {
	s := `last by (b,a_) {a="\"}"} from -12 to 34 limit 10`
	for i := range len(s) {
		for c := range 256 {
			one := string([]byte{byte(c)})
			sameText(t, s[:i]+one+s[i+1:])
			sameText(t, s[:i]+one+s[i:])
		}
		sameText(t, s[:i]+s[i+1:])
	}
}

func TestTextsByTheWords(t *testing.T) {
	r := rand.New(rand.NewSource(1))
	pieces := []string{"first", "last", "count", "by", "(", ")", ",", "a", "b", "{}", `{a="x"}`, `{a="}`, "{", "}", `"`, `\`, "from", "to", "limit", "0", "-1", "5", "1001", "-", " ", " ", " ", "\t", "\xff", "é"}
	right := 0
	for range 20000 {
		s := someQuestion(r)
		parsed(t, s)
		sameText(t, s)
		cut := r.Intn(len(s) + 1)
		behind := min(cut+r.Intn(3), len(s))
		s = s[:cut] + pick(r, pieces...) + s[behind:]
		sameText(t, s)
		if _, err := Parse(s); err == nil {
			right++
		}
		s = ""
		for range r.Intn(12) {
			s += pick(r, pieces...)
		}
		sameText(t, s)
	}
	if right < 1000 {
		t.Errorf("only %d changed texts are questions", right)
	}
}

func TestParseOfPrintIsTheSame(t *testing.T) {
	r := rand.New(rand.NewSource(2))
	for range 3000 {
		a := parsed(t, someQuestion(r))
		b := parsed(t, a.Print())
		from, to := a.Span()
		gotFrom, gotTo := b.Span()
		if a.Print() != b.Print() || from != gotFrom || to != gotTo || !slices.Equal(a.Set().List(), b.Set().List()) {
			t.Errorf("S1: %q becomes %q", a.Print(), b.Print())
		}
		l := someSeries(r)
		equalRows(t, a.Print(), Run(b, l), Run(a, l))
	}
}

func TestSetAndSpan(t *testing.T) {
	q := parsed(t, `count {b!="1",a="x",b=~"[12]"}`)
	want := []api.Matcher{{Name: "b", Op: api.OpNot, Text: "1"}, {Name: "a", Op: api.OpIs, Text: "x"}, {Name: "b", Op: api.OpLike, Text: "[12]"}}
	if !slices.Equal(q.Set().List(), want) || !q.Set().Holds(labels("a", "x", "b", "2")) || q.Set().Holds(labels("a", "x", "b", "1")) || q.Set().Holds(labels("a", "x")) {
		t.Errorf("S2: Set is %v", q.Set().List())
	}
	if got := parsed(t, "count {}").Set(); got == nil || len(got.List()) != 0 || !got.Holds(nil) {
		t.Errorf("S2: Set of no matchers")
	}
	for s, want := range map[string][2]int64{
		"count {}": {math.MinInt64, math.MaxInt64}, "count {} from 5": {5, math.MaxInt64}, "count {} to 5": {math.MinInt64, 5}, "count {} from 0 to 0": {0, 0},
		"count {} from 7 to -7 limit 1": {7, -7}, "count {} from -9223372036854775808 to -9223372036854775808": {math.MinInt64, math.MinInt64}, "count {} from 9223372036854775807": {math.MaxInt64, math.MaxInt64},
	} {
		if from, to := parsed(t, s).Span(); from != want[0] || to != want[1] {
			t.Errorf("S2: Span of %q is %d, %d", s, from, to)
		}
	}
}

func TestSetIsTheCallers(t *testing.T) {
	q := parsed(t, `count {a="x"}`)
	other, _ := match.New([]api.Matcher{{Name: "b", Op: api.OpIs, Text: "y"}})
	a, b := q.Set(), q.Set()
	*a = *other
	list := b.List()
	list[0] = api.Matcher{}
	_ = append(list, api.Matcher{})
	l := []api.Series{{Labels: labels("a", "x"), Samples: []api.Sample{{T: 1, V: 1}}}}
	if q.Print() != `count {a="x"}` || len(Run(q, l)) != 1 || !b.Holds(labels("a", "x")) || !q.Set().Holds(labels("a", "x")) {
		t.Errorf("P3: who is handed a set changes the question: %q", q.Print())
	}
}

func TestFaultsAreTheCallers(t *testing.T) {
	for _, s := range []string{"sum {}", "count {a}"} {
		_, err := Parse(s)
		fault := err.(*api.Fault)
		was := *fault
		fault.At, fault.Err = 99, api.ErrPool
		if _, err = Parse(s); *err.(*api.Fault) != was {
			t.Errorf("P3: a fault of %q is kept: %v", s, err)
		}
	}
}

func TestLongTexts(t *testing.T) {
	begun := time.Now()
	for _, one := range []string{" ", "{", "}", "a", "(", `"`, `\`, "{}", `{"`, "1", "-", "by ", "a,", `{a="x"},`, `{a="\"`, "\xff"} {
		for _, ahead := range []string{"", "count", "count ", "count by (", "count {} from ", "count {} limit 5", "count {", `count {a="`} {
			sameText(t, ahead+strings.Repeat(one, 10000))
			q, err := Parse(ahead + strings.Repeat(one, 1<<20))
			if (q == nil) != (err != nil) {
				t.Errorf("P2: %q and many %q: %v, %v", ahead, one, q, err)
			}
		}
	}
	if took := time.Since(begun); took > time.Minute {
		t.Errorf("P1: long texts took %v", took)
	}
}
