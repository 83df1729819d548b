package label

import (
	"errors"
	"math/rand"
	"regexp"
	"slices"
	"strings"
	"testing"
	"unicode/utf8"

	"turnkey/api"
)

func TestPrint(t *testing.T) {
	for _, c := range []struct {
		l    []api.Label
		want string
	}{
		{set("a", "x"), `{a="x"}`},
		{set("a", "x\"\\", "b", "\n"), `{a="x\"\\", b="\n"}`},
		{set("A", "1", "b_2", "\t\r\x00\x7f }{,=", "c", "é\U0010ffff"), "{A=\"1\", b_2=\"\t\r\x00\x7f }{,=\", c=\"é\U0010ffff\"}"},
		{set("a", `\n`), `{a="\\n"}`},
		{set("a", "\n\n\"\"\\\\n"), `{a="\n\n\"\"\\\\n"}`},
	} {
		if got := Print(c.l); got != c.want {
			t.Errorf("Print(%q) = %s, not %s", c.l, got, c.want)
		}
	}
}

func TestParseOfPrint(t *testing.T) {
	for _, l := range rightSets() {
		got, err := Parse(Print(l))
		if err != nil || !slices.Equal(got, l) {
			t.Errorf("Parse(Print(%q)) = %q, %v", l, got, err)
		}
	}
}

func TestParse(t *testing.T) {
	for s, want := range map[string][]api.Label{
		` { b = "y",a="x"}`:                           set("a", "x", "b", "y"),
		`   {   a   =   "x"   ,   b   =   "y"   }   `: set("a", "x", "b", "y"),
		`{a="x",b="y"}`:                               set("a", "x", "b", "y"),
		`{c="1",b="2",_="3",C="4"}`:                   set("C", "4", "_", "3", "b", "2", "c", "1"),
		`{a="\n\"\\"}`:                                set("a", "\n\"\\"),
		`{a="\\n"}`:                                   set("a", `\n`),
		`{a="\\\\"}`:                                  set("a", `\\`),
		`{a=" x , y = }{ "}`:                          set("a", " x , y = }{ "),
		"{a=\"\t\x00\r\"}":                            set("a", "\t\x00\r"),
		`{Z9_="é"}`:                                   set("Z9_", "é"),
		`{a="` + strings.Repeat(`\"`, api.MaxValue) + `"}`:                set("a", strings.Repeat(`"`, api.MaxValue)),
		`{` + strings.Repeat("n", api.MaxLabel) + `="x"}`:                 set(strings.Repeat("n", api.MaxLabel), "x"),
		`{h="1",g="1",f="1",e="1",d="1",c="1",b="1",a="1"}`:               row(api.MaxLabels),
		strings.Repeat(" ", 1000) + `{a="x"}` + strings.Repeat(" ", 1000): set("a", "x"),
	} {
		got, err := Parse(s)
		if err != nil || !slices.Equal(got, want) {
			t.Errorf("Parse(%q) = %q, %v", s, got, err)
		}
	}
}

// wantFault: ErrLabels at a place, and nothing beside it.
func wantFault(t *testing.T, s string, at int) {
	t.Helper()
	l, err := Parse(s)
	var f *api.Fault
	if l != nil || !errors.As(err, &f) || f.Err != api.ErrLabels || f.At != at {
		t.Errorf("Parse(%q) = %q, %v; not ErrLabels at %d", s, l, err, at)
	}
	if !errors.Is(err, api.ErrLabels) {
		t.Errorf("Parse(%q): %v does not wrap its number", s, err)
	}
}

func TestParseOfTextsThatAreNotRight(t *testing.T) {
	for s, at := range map[string]int{
		"": 0, " ": 1, "  x": 2, "a": 0, "}": 0, "\t{": 0, "{{": 1,
		"{": 1, "{  ": 3, "{a": 2, "{a}": 2, "{a  }": 4, "{a b=\"x\"}": 3, "{a\t=\"x\"}": 2, "{a==": 3, "{a-b=\"x\"}": 2, "{é=\"x\"}": 1, "{=\"x\"}": 1, "{\"a\"=\"x\"}": 1,
		"{a=": 3, "{a= ": 4, "{a=x": 3, "{a=~\"x\"}": 3, "{a!=\"x\"}": 2, "{a='x'}": 3,
		`{a="`: 4, `{a="x`: 5, `{a="x\`: 6, `{a="x\q"}`: 6, `{a="\N"}`: 5, `{a="\t"}`: 5, `{a="\x`: 5, `{a="\`: 5, `{a="\n`: 6, `{a="\"}`: 7, "{a=\"x\ny\"}": 5, "{a=\"\\\n\"}": 5, "{a=\"\n": 4,
		`{a="x"`: 6, `{a="x" `: 7, `{a="x",}`: 7, `{a="x", }`: 8, `{a="x",`: 7, `{a="x",,`: 7, `{,`: 1, `{,}`: 1, `{a="x" b="y"}`: 7, `{a="x""y"}`: 6, `{a="x"]`: 6,
		`{a="x"} b`: 8, `{a="x"}}`: 7, "{a=\"x\"}\n": 7, `{}x`: 2, `{} {`: 3, "{a=\"x\"}\x00": 7,
		"{1=\"x\"}": 1, "{1a=\"x\"}": 1, "{a=\"x\",9=\"y\"}": 7,
	} {
		wantFault(t, s, at)
	}
}

func TestParseOfWrongLabels(t *testing.T) {
	long, longer := strings.Repeat("n", api.MaxLabel+1), strings.Repeat("v", api.MaxValue+1)
	for s, at := range map[string]int{
		"{}": 1, "{ }": 2, "  {}": 3, " {   } ": 5,
		`{a=""}`: 1, `{  a=""}`: 3, `{a="x",   b=""}`: 10, "{a=\"\xff\"}": 1, "{a=\"x\", b=\"\xed\xa0\x80\"}": 8,
		`{ ` + long + `="x"}`: 2, `{a="x",` + long + `="x"}`: 7, `{a="` + longer + `"}`: 1, `{b="x",a="` + longer + `"}`: 7,
		`{a="` + strings.Repeat(`\n`, api.MaxValue) + `v"}`: 1,
		`{b="x", a="y", b="z"}`:                             15, `{a="x",a="x"}`: 7, `{a="x",b="",a="x"}`: 7, `{a="x",a="x",b=""}`: 7,
		`{a="1",b="1",c="1",d="1",e="1",f="1",g="1",h="1",  i="1"}`:          51,
		`{a="1",b="1",c="1",d="1",e="1",f="1",g="1",h="1",i="1",j="1",k=""}`: 49,
		`{a="1",b="1",c="1",d="1",e="1",f="1",g="1",h="",i="1"}`:             43,
	} {
		wantFault(t, s, at)
	}
}

// TestParseOfTheFormFirst: a text that is not right tells of that, whatever labels stand ahead.
func TestParseOfTheFormFirst(t *testing.T) {
	for s, at := range map[string]int{
		`{a="", b=x}`: 9, `{a="x",a="y"`: 12, `{} }`: 3, `{a=""`: 5, `{a="1",b="1",c="1",d="1",e="1",f="1",g="1",h="1",i="1",}`: 55, "{" + strings.Repeat("n", 40) + `="",`: 45,
	} {
		wantFault(t, s, at)
	}
}

func TestParseIsNewMemory(t *testing.T) {
	one, err := Parse(`{b="y",a="x"}`)
	two, other := Parse(`{b="y",a="x"}`)
	if err != nil || other != nil {
		t.Fatal(err, other)
	}
	scribble(one)
	if !slices.Equal(two, set("a", "x", "b", "y")) {
		t.Errorf("two answers share memory: %q", two)
	}
	_, err = Parse("{a}")
	var f *api.Fault
	if errors.As(err, &f) {
		*f = api.Fault{At: 99, Err: api.ErrArg}
	}
	wantFault(t, "{a}", 2)
}

// TestParseOfLongTexts: none takes long.
func TestParseOfLongTexts(t *testing.T) {
	const n = 1 << 20
	wantFault(t, strings.Repeat(" ", n), n)
	wantFault(t, "{"+strings.Repeat("n", n), n+1)
	wantFault(t, `{a="`+strings.Repeat(`\\`, n)+`"}`, 1)
	wantFault(t, "{"+strings.Repeat(`a="x",`, n)+"}", 1+6*n)
	wantFault(t, "{"+strings.Repeat(`a="x",`, n)+`b="y"}`, 7)
	if got, e := Sort(make([]api.Label, n)); got != nil || e != api.ErrLabels {
		t.Errorf("Sort of a long list: %d", e)
	}
}

// The texts that are right, and a label in one, by other means than the program's.
var (
	oneLabel  = `([A-Za-z_][A-Za-z0-9_]*) *= *"((?:[^"\\\n]|\\["\\n])*)"`
	rightText = regexp.MustCompile(`\A *\{ *(?:` + oneLabel + `(?: *, *` + oneLabel + `)*)? *\} *\z`)
	labelText = regexp.MustCompile(oneLabel)
)

// goesOn tells whether some right text begins with s: if so, one of few endings makes it one.
func goesOn(s string) bool {
	for _, end := range []string{"", "{}", "}", `=""}`, `""}`, `"}`, `n"}`, `a=""}`} {
		if rightText.MatchString(s + end) {
			return true
		}
	}
	return false
}

// plainParse is chapter 7's Parse word by word: the labels, or the place of the fault.
func plainParse(s string) ([]api.Label, int) {
	if !rightText.MatchString(s) {
		at := 0
		for n := range len(s) + 1 {
			if goesOn(s[:n]) {
				at = n
			}
		}
		return nil, at
	}
	var out []api.Label
	for i, m := range labelText.FindAllStringSubmatchIndex(s, -1) {
		name, value := s[m[2]:m[3]], plainValue(s[m[4]:m[5]])
		twice := slices.ContainsFunc(out, func(l api.Label) bool { return l.Name == name })
		if i == 8 || twice || len(name) > 32 || len(value) > 64 || value == "" || !utf8.ValidString(value) {
			return nil, m[0]
		}
		out = append(out, api.Label{Name: name, Value: value})
	}
	if out == nil {
		return nil, strings.Index(s, "}")
	}
	slices.SortFunc(out, func(a, b api.Label) int { return strings.Compare(a.Name, b.Name) })
	return out, 0
}

func plainValue(s string) string {
	return strings.NewReplacer(`\\`, `\`, `\"`, `"`, `\n`, "\n").Replace(s)
}

func holdAgainstPlain(t *testing.T, s string) {
	t.Helper()
	want, at := plainParse(s)
	if want == nil {
		wantFault(t, s, at)
		return
	}
	got, err := Parse(s)
	if err != nil || !slices.Equal(got, want) || Right(got) != api.OK {
		t.Errorf("Parse(%q) = %q, %v; not %q", s, got, err, want)
	}
	if again, err := Parse(Print(got)); err != nil || !slices.Equal(again, got) {
		t.Errorf("what Parse takes of %q is printed as %q", s, Print(got))
	}
}

// letters: one of each kind of byte.
const letters = "{}a1=\",\\ n\n\xff"

// TestParseOfAllShortTexts: of few bytes every text of up to three, behind each beginning at which something else may follow.
func TestParseOfAllShortTexts(t *testing.T) {
	var grow func(s string, left int)
	grow = func(s string, left int) {
		holdAgainstPlain(t, s)
		for i := range len(letters) {
			if left > 0 {
				grow(s+letters[i:i+1], left-1)
			}
		}
	}
	for _, s := range []string{"", "{", "{a", "{a=", `{a="`, `{a="x`, `{a="\`, `{a="x"`, `{a="x",`, `{b="y",a="x"}`} {
		grow(s, 3)
	}
}

// TestParseOfRandomTexts: right texts, some with a byte changed, taken out or put in.
func TestParseOfRandomTexts(t *testing.T) {
	r := rand.New(rand.NewSource(3))
	for range 6000 {
		s := randomText(r)
		for range r.Intn(3) {
			i, k := r.Intn(len(s)+1), r.Intn(len(letters)+1)
			s = s[:i] + letters[k:min(k+1, len(letters))] + s[min(len(s), i+r.Intn(2)):]
		}
		holdAgainstPlain(t, s)
	}
}

func randomText(r *rand.Rand) string {
	blanks := func() string { return strings.Repeat(" ", max(0, r.Intn(4)-2)) }
	names := []string{"a", "b", "c", "d", "e", "f", "g", "h", "i", "A", "_", "a1", strings.Repeat("n", 31+r.Intn(3))}
	values := []string{"x", `\n`, `\\`, `\"`, "é", "\xff", ", }", "", strings.Repeat("v", 63+r.Intn(3))}
	r.Shuffle(len(names), func(i, k int) { names[i], names[k] = names[k], names[i] })
	var labels []string
	for i := range r.Intn(11) {
		name := names[i]
		if r.Intn(12) == 0 {
			name = names[r.Intn(len(names))]
		}
		value := "1"
		if r.Intn(4) == 0 {
			value = values[r.Intn(len(values))]
		}
		labels = append(labels, blanks()+name+blanks()+"="+blanks()+`"`+value+`"`+blanks())
	}
	return blanks() + "{" + strings.Join(labels, ",") + "}" + blanks()
}
