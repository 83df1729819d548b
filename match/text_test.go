package match

import (
	"errors"
	"math/rand"
	"regexp"
	"slices"
	"strings"
	"testing"
	"unicode/utf8"

	"turnkey/api"
	"turnkey/pattern"
)

func TestPrint(t *testing.T) {
	for _, c := range []struct {
		l    []api.Matcher
		want string
	}{
		{nil, "{}"}, {[]api.Matcher{}, "{}"},
		{[]api.Matcher{m("a", opIs, "x\""), m("b", opUnlike, "[^y]")}, `{a="x\"", b!~"[^y]"}`},
		{[]api.Matcher{m("b", opNot, ""), m("a", opLike, ""), m("a", opIs, "")}, `{b!="", a=~"", a=""}`},
		{[]api.Matcher{m("a", opNot, "\\\n\"\\n"), m("a", opLike, `\.\\`)}, `{a!="\\\n\"\\n", a=~"\\.\\\\"}`},
		{[]api.Matcher{m("Z_9", opIs, "\t\r\x00\x7f }{,=!~é\U0010ffff")}, "{Z_9=\"\t\r\x00\x7f }{,=!~é\U0010ffff\"}"},
		{[]api.Matcher{m("a", opLike, "[cba]|\n")}, `{a=~"[cba]|\n"}`},
		{row(8), `{a="1", b!="1", c=~"1", d!~"1", e="1", f!="1", g=~"1", h!~"1"}`},
	} {
		if got := Print(c.l); got != c.want {
			t.Errorf("Print(%v) = %s, not %s", c.l, got, c.want)
		}
	}
}

func TestParseOfPrint(t *testing.T) {
	lists := [][]api.Matcher{nil, row(8), rightMatchers()[:8], rightMatchers()[8:16]}
	for _, one := range rightMatchers() {
		lists = append(lists, []api.Matcher{one}, []api.Matcher{one, m("b", opNot, "z"), one})
	}
	for _, l := range lists {
		got, err := Parse(Print(l))
		if err != nil || !slices.Equal(got, l) {
			t.Errorf("Parse(Print(%v)) = %v, %v", l, got, err)
		}
	}
}

func TestParse(t *testing.T) {
	for s, want := range map[string][]api.Matcher{
		"{}": nil, "  {  }  ": nil,
		` { b !~ "y*",a="" } `:                          {m("b", opUnlike, "y*"), m("a", opIs, "")},
		`{a="x",b!="x",c=~"x",d!~"x"}`:                  {m("a", opIs, "x"), m("b", opNot, "x"), m("c", opLike, "x"), m("d", opUnlike, "x")},
		`   {   a   !=   "x"   ,   a   =~   "y"   }   `: {m("a", opNot, "x"), m("a", opLike, "y")},
		`{b="1",a="1",b="1",a="2"}`:                     {m("b", opIs, "1"), m("a", opIs, "1"), m("b", opIs, "1"), m("a", opIs, "2")},
		`{a="~"}`:                                       {m("a", opIs, "~")}, `{a="\n\"\\"}`: {m("a", opIs, "\n\"\\")}, `{a=~"\\\\"}`: {m("a", opLike, `\\`)}, `{a!="\\n"}`: {m("a", opNot, `\n`)},
		`{a=" x , y != }{ "}`: {m("a", opIs, " x , y != }{ ")}, "{a=\"\t\x00\r\"}": {m("a", opIs, "\t\x00\r")}, `{_Z9="é"}`: {m("_Z9", opIs, "é")},
		`{a="` + strings.Repeat(`\"`, 64) + `"}`:                          {m("a", opIs, strings.Repeat(`"`, 64))},
		`{a=~"` + strings.Repeat(`\n`, 64) + `"}`:                         {m("a", opLike, strings.Repeat("\n", 64))},
		`{` + strings.Repeat("n", 32) + `=""}`:                            {m(strings.Repeat("n", 32), opIs, "")},
		`{a="1",b!="1",c=~"1",d!~"1",e="1",f!="1",g=~"1",h!~"1"}`:         row(8),
		strings.Repeat(" ", 1000) + `{a="x"}` + strings.Repeat(" ", 1000): {m("a", opIs, "x")},
	} {
		got, err := Parse(s)
		if err != nil || !slices.Equal(got, want) {
			t.Errorf("Parse(%q) = %v, %v", s, got, err)
		}
	}
}

// wantFault: ErrMatch at a place, and nothing beside it.
func wantFault(t *testing.T, s string, at int) {
	t.Helper()
	l, err := Parse(s)
	var f *api.Fault
	if l != nil || !errors.As(err, &f) || f.Err != api.ErrMatch || f.At != at {
		t.Errorf("Parse(%q) = %v, %v; not ErrMatch at %d", s, l, err, at)
	}
	if !errors.Is(err, api.ErrMatch) {
		t.Errorf("Parse(%q): %v does not wrap its number", s, err)
	}
}

func TestParseOfTextsThatAreNotRight(t *testing.T) {
	for s, at := range map[string]int{
		"": 0, " ": 1, "  x": 2, "a": 0, "}": 0, "\t{": 0, "{{": 1, "\n": 0,
		"{": 1, "{  ": 3, "{a": 2, "{a}": 2, "{a  }": 4, `{a b="x"}`: 3, "{a\t=\"x\"}": 2, `{a-b="x"}`: 2, `{é="x"}`: 1, `{="x"}`: 1, `{"a"="x"}`: 1, `{1="x"}`: 1, `{1a=~"x"}`: 1, `{a="x",9="y"}`: 7, "{\n}": 1,
		"{a=": 3, "{a= ": 4, "{a=x": 3, "{a='x'}": 3, "{a=\n": 3,
		`{a= ~"x"}`: 4, `{a!"x"}`: 3, `{a! ="x"}`: 3, `{a! ~"x"}`: 3, "{a!": 3, "{a! ": 3, "{a!}": 3, "{a!!": 3, `{a=="x"}`: 3, `{a=!"x"}`: 3, `{a=~~"x"}`: 4, `{a=~="x"}`: 4, `{a!=="x"}`: 4, `{a!=~"x"}`: 4, `{a!~="x"}`: 4, `{a~"x"}`: 2, `{a ~"x"}`: 3, "{a=~": 4, "{a!=": 4, "{a!~ ": 5, "{a=~x": 4, `{a<"x"}`: 2, "{!": 1,
		`{a="`: 4, `{a="x`: 5, `{a="x\`: 6, `{a="x\q"}`: 6, `{a="\N"}`: 5, `{a="\t"}`: 5, `{a="\x`: 5, `{a="\`: 5, `{a="\n`: 6, `{a="\"}`: 7, "{a=\"x\ny\"}": 5, "{a=\"\\\n\"}": 5, "{a=\"\n": 4, `{a=~"\."}`: 6,
		`{a="x"`: 6, `{a="x" `: 7, `{a="x",}`: 7, `{a="x", }`: 8, `{a="x",`: 7, `{a="x",,`: 7, "{,": 1, "{,}": 1, `{a="x" b="y"}`: 7, `{a="x""y"}`: 6, `{a="x"]`: 6,
		`{a="x"} {`: 8, `{a="x"}}`: 7, "{a=\"x\"}\n": 7, "{}x": 2, "{} {": 3, "{a=\"x\"}\x00": 7,
	} {
		wantFault(t, s, at)
	}
}

func TestParseOfWrongMatchers(t *testing.T) {
	long, longer := strings.Repeat("n", 33), strings.Repeat("v", 65)
	eight := strings.Repeat(`a="1",`, 8)
	for s, at := range map[string]int{
		`{a=~"("}`: 1, `{  a!~"("}`: 3, `{a="(",   b=~"("}`: 10, "{a=\"\xff\"}": 1, "{a=\"x\", b!=\"\xed\xa0\x80\"}": 8, "{a=~\"\xff\"}": 1, `{a=~"\\x"}`: 1, `{a="x",b=~"a**",c=~"("}`: 7,
		`{ ` + long + `="x"}`: 2, `{a="x",` + long + `="x"}`: 7, `{a="` + longer + `"}`: 1, `{b="x",a!~"` + longer + `"}`: 7, `{a="` + strings.Repeat(`\n`, 64) + `v"}`: 1,
		`{` + eight + `  i="1"}`: 51, `{` + eight + `i="1",j=~"("}`: 49, `{` + eight + `j=~"(",i="1"}`: 49, `{` + eight[6:] + `j=~"(",i="1"}`: 43, `{` + eight + eight + `a="1"}`: 49,
	} {
		wantFault(t, s, at)
	}
}

// TestParseOfTheFormFirst: a text that is not right tells of that, whatever matchers stand ahead.
func TestParseOfTheFormFirst(t *testing.T) {
	for s, at := range map[string]int{
		`{a=~"(", b=x}`: 11, `{a=~"("`: 7, `{a=~"("} }`: 9, "{a=\"\xff\"": 6, "{" + strings.Repeat(`a="1",`, 9) + "}": 55, "{" + strings.Repeat("n", 40) + `="",`: 45,
	} {
		wantFault(t, s, at)
	}
}

func TestParseIsNewMemory(t *testing.T) {
	want := []api.Matcher{m("b", opIs, "y"), m("a", opUnlike, "x")}
	one, err := Parse(`{b="y",a!~"x"}`)
	two, other := Parse(`{b="y",a!~"x"}`)
	if err != nil || other != nil {
		t.Fatal(err, other)
	}
	scribble(one)
	if !slices.Equal(two, want) {
		t.Errorf("two answers share memory: %v", two)
	}
	_, err = Parse("{a}")
	var f *api.Fault
	if errors.As(err, &f) {
		*f = api.Fault{At: 99, Err: api.ErrArg}
	}
	wantFault(t, "{a}", 2)
}

// TestParseOfLongTexts: none takes long.
func TestParseOfLongTexts(t *testing.T) {
	const n = 1 << 20
	wantFault(t, strings.Repeat(" ", n), n)
	wantFault(t, "{"+strings.Repeat("n", n), n+1)
	wantFault(t, `{a="`+strings.Repeat(`\\`, n)+`"}`, 1)
	wantFault(t, "{"+strings.Repeat(`a="x",`, n)+"}", 1+6*n)
	wantFault(t, "{"+strings.Repeat(`a="x",`, n)+`b="y"}`, 49)
}

// The texts that are right, and a matcher in one, by other means than the program's.
var (
	oneMatcher  = `([A-Za-z_][A-Za-z0-9_]*) *(=~|=|!=|!~) *"((?:[^"\\\n]|\\["\\n])*)"`
	rightText   = regexp.MustCompile(`\A *\{ *(?:` + oneMatcher + `(?: *, *` + oneMatcher + `)*)? *\} *\z`)
	matcherText = regexp.MustCompile(oneMatcher)
	rightName   = regexp.MustCompile(`\A[A-Za-z_][A-Za-z0-9_]{0,31}\z`)
)

// goesOn tells whether some right text begins with s: if so, one of few endings makes it one.
func goesOn(s string) bool {
	for _, end := range []string{"", "{}", "}", `=""}`, `""}`, `"}`, `n"}`, `a=""}`} {
		if rightText.MatchString(s + end) {
			return true
		}
	}
	return false
}

func plainMayBe(one api.Matcher) bool {
	if !rightName.MatchString(one.Name) {
		return false
	}
	if one.Op > 2 {
		_, err := pattern.Parse(one.Text)
		return err == nil
	}
	return len(one.Text) <= 64 && utf8.ValidString(one.Text)
}

// plainParse is chapter 9's Parse word by word: the matchers, or the place of the fault and false.
func plainParse(s string) ([]api.Matcher, int, bool) {
	if !rightText.MatchString(s) {
		at := 0
		for n := range len(s) + 1 {
			if goesOn(s[:n]) {
				at = n
			}
		}
		return nil, at, false
	}
	var out []api.Matcher
	for i, at := range matcherText.FindAllStringSubmatchIndex(s, -1) {
		text := strings.NewReplacer(`\\`, `\`, `\"`, `"`, `\n`, "\n").Replace(s[at[6]:at[7]])
		op := map[string]int{"=": 1, "!=": 2, "=~": 3, "!~": 4}[s[at[4]:at[5]]]
		one := m(s[at[2]:at[3]], op, text)
		if i == 8 || !plainMayBe(one) {
			return nil, at[0], false
		}
		out = append(out, one)
	}
	return out, 0, true
}

func holdAgainstPlain(t *testing.T, s string) {
	t.Helper()
	want, at, ok := plainParse(s)
	if !ok {
		wantFault(t, s, at)
		return
	}
	got, err := Parse(s)
	if err != nil || !slices.Equal(got, want) {
		t.Errorf("Parse(%q) = %v, %v; not %v", s, got, err, want)
	}
	if _, e := New(got); e != api.OK {
		t.Errorf("New refuses what Parse takes of %q", s)
	}
	if again, err := Parse(Print(got)); err != nil || !slices.Equal(again, got) {
		t.Errorf("what Parse takes of %q is printed as %q", s, Print(got))
	}
}

// letters: one of each kind of byte.
const letters = "{}a1=!~\",\\ n\n\xff"

// TestParseOfAllShortTexts: of few bytes every text of up to three, behind each beginning at which something else may follow.
func TestParseOfAllShortTexts(t *testing.T) {
	var grow func(s string, left int)
	grow = func(s string, left int) {
		holdAgainstPlain(t, s)
		for i := range len(letters) {
			if left > 0 {
				grow(s+letters[i:i+1], left-1)
			}
		}
	}
	for _, s := range []string{"", "{", "{a", "{a=", "{a!", "{a!~", `{a="`, `{a=~"x`, `{a="\`, `{a="x"`, `{a="x",`, `{b="y",a="x"}`} {
		grow(s, 2)
	}
	for _, s := range []string{"", "{a"} {
		grow(s, 3)
	}
}

// TestParseOfRandomTexts: right texts, some with a byte changed, taken out or put in.
func TestParseOfRandomTexts(t *testing.T) {
	r := rand.New(rand.NewSource(3))
	for range 6000 {
		s := randomText(r)
		for range r.Intn(3) {
			i, k := r.Intn(len(s)+1), r.Intn(len(letters)+1)
			s = s[:i] + letters[k:min(k+1, len(letters))] + s[min(len(s), i+r.Intn(2)):]
		}
		holdAgainstPlain(t, s)
	}
}

func randomText(r *rand.Rand) string {
	blanks := func() string { return strings.Repeat(" ", max(0, r.Intn(4)-2)) }
	names := []string{"a", "b", "A", "_", "a1", "x_Y", strings.Repeat("n", 31+r.Intn(3))}
	texts := []string{"x", `\n`, `\\`, `\"`, "é", "\xff", ", }", "", "(", "a*|b", `\\.`, strings.Repeat("v", 63+r.Intn(3))}
	ops := []string{"=", "!=", "=~", "!~"}
	var out []string
	for range r.Intn(11) {
		name, text := "a", "1"
		if r.Intn(4) == 0 {
			name = names[r.Intn(len(names))]
		}
		if r.Intn(4) == 0 {
			text = texts[r.Intn(len(texts))]
		}
		out = append(out, blanks()+name+blanks()+ops[r.Intn(4)]+blanks()+`"`+text+`"`+blanks())
	}
	return blanks() + "{" + strings.Join(out, ",") + "}" + blanks()
}
