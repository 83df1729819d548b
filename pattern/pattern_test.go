package pattern

import (
	"errors"
	"slices"
	"strings"
	"sync"
	"testing"

	"turnkey/api"
)

// allSigns as the chapter lists them.
const allSigns = `\.[]()|*+?^-`

// read takes a pattern that is right.
func read(t *testing.T, s string) *Pattern {
	t.Helper()
	p, err := Parse(s)
	if err != nil || p == nil {
		t.Fatalf("Parse(%q) = %v, %v", s, p, err)
	}
	return p
}

// wantFault: ErrPattern at a place, and nothing beside it.
func wantFault(t *testing.T, s string, at int) {
	t.Helper()
	p, err := Parse(s)
	var f *api.Fault
	if p != nil || !errors.As(err, &f) || f.Err != api.ErrPattern || f.At != at {
		t.Errorf("Parse(%q) = %v, %v; not ErrPattern at %d", s, p, err, at)
	}
	if !errors.Is(err, api.ErrPattern) {
		t.Errorf("Parse(%q): %v does not wrap its number", s, err)
	}
}

func TestMeaning(t *testing.T) {
	const all = "[^\x00-\U0010ffff]"
	for _, c := range []struct {
		pattern string
		yes, no []string
	}{
		{"", []string{""}, []string{"a", "\x00", " "}},
		{"|", []string{""}, []string{"|"}},
		{"()", []string{""}, []string{"a", "()"}},
		{"()*", []string{""}, []string{"a"}},
		{"()+", []string{""}, []string{"a"}},
		{"(|)*()?", []string{""}, []string{"a"}},
		{"abc", []string{"abc"}, []string{"", "ab", "bc", "abcd", "xabc", "ABC"}},
		{"a|b*", []string{"a", "", "b", "bb", "bbbbbb"}, []string{"ab", "aa", "ba"}},
		{"ab|c", []string{"ab", "c"}, []string{"ac", "abc", "a", ""}},
		{"ab*", []string{"a", "ab", "abb"}, []string{"", "abab", "b"}},
		{"ab+", []string{"ab", "abb"}, []string{"", "a", "abab", "b"}},
		{"ab?", []string{"a", "ab"}, []string{"", "abb", "b"}},
		{"(ab)*", []string{"", "ab", "abab"}, []string{"a", "aba", "abb"}},
		{"(ab)+c?", []string{"ab", "abab", "ababc"}, []string{"", "c", "abcc", "abcab"}},
		{"(ab)?", []string{"", "ab"}, []string{"a", "b", "abab"}},
		{"(a|)b", []string{"ab", "b"}, []string{"", "a"}},
		{"(a?b?)+c", []string{"c", "ac", "bac", "abbac"}, []string{"", "ab"}},
		{"((a|b)(c|d)?)*", []string{"", "a", "ac", "abd", "bdac"}, []string{"c", "acc"}},
		{"(x|y)z?", []string{"x", "y", "xz", "yz"}, []string{"", "z", "xy", "xzz"}},
		{"a.c", []string{"abc", "a.c", "aéc", "a\nc", "a\x00c", "a\ufffdc", "a\U0010ffffc"}, []string{"ac", "abbc", "a\xffc", "a\xed\xa0\x80c"}},
		{".*", []string{"", "a", "世界", strings.Repeat("x", 1000)}, []string{"\xff", "a\xff", "\xffa", "\xc3", "\xe4\xb8", "\xed\xbf\xbf", "\xc0\x80", "\xf4\x90\x80\x80"}},
		{"[a-c]", []string{"a", "b", "c"}, []string{"d", "`", "", "ab", "-"}},
		{"[ac]", []string{"a", "c"}, []string{"b", "ac"}},
		{"[a-cx-z]+", []string{"ax", "zb"}, []string{"d", "w"}},
		{"[^a-c]x", []string{"dx", "éx", "-x", "^x", "\ufffdx"}, []string{"ax", "bx", "x", "\xffx"}},
		{"[^a]", []string{"b", "\x00", "\U0010ffff", "\ud7ff", "\ue000"}, []string{"a", "", "bb"}},
		{`[\--\]]`, []string{"-", "A", "]"}, []string{"^", "a", ","}},
		{`[\^a]`, []string{"^", "a"}, []string{"b", `\`}},
		{`[^\^]`, []string{"a"}, []string{"^"}},
		{"é", []string{"é"}, []string{"e", "\xc3"}},
		{"é*", []string{"", "éé"}, []string{"e", "\xc3", "é\xa9"}},
		{"\ufffd", []string{"\ufffd"}, []string{"\xff", "\xef\xbf", ""}},
		{"[\ufff0-\uffff]", []string{"\ufffd"}, []string{"\xff"}},
		{" \n\"{}=,/$<>", []string{" \n\"{}=,/$<>"}, []string{""}},
		{all, nil, []string{"", "a"}},
		{all + "*", []string{""}, []string{"a"}},
		{all + "?", []string{""}, []string{"a"}},
		{all + "+", nil, []string{"", "a"}},
		{"x" + all + ".|y", []string{"y"}, []string{"", "x", "xyz", "xa"}},
		{"((a*)*)*b", []string{"b", "aab"}, []string{"", "a", strings.Repeat("a", 60)}},
		{strings.Repeat("a", 64), []string{strings.Repeat("a", 64)}, []string{strings.Repeat("a", 63), strings.Repeat("a", 65)}},
		{strings.Repeat("a?", 32), []string{"", strings.Repeat("a", 32)}, []string{strings.Repeat("a", 33)}},
		{strings.Repeat(".", 63) + "b", []string{strings.Repeat("é", 63) + "b"}, []string{strings.Repeat("é", 64)}},
		{strings.Repeat("(", 16) + "a" + strings.Repeat(")*", 16), []string{"", "aaa"}, []string{"b"}},
	} {
		p := read(t, c.pattern)
		for _, v := range c.yes {
			if !p.Match(v) {
				t.Errorf("%q does not mean %q", c.pattern, v)
			}
		}
		for _, v := range c.no {
			if p.Match(v) {
				t.Errorf("%q means %q", c.pattern, v)
			}
		}
	}
}

// TestSignsAndCharacters: of all bytes just the signs want a `\`, and just they bear it, in a class as outside.
func TestSignsAndCharacters(t *testing.T) {
	for c := range rune(0x180) {
		plain, escaped := string(c), `\`+string(c)
		right, wrong, at := plain, escaped, 1
		if strings.ContainsRune(allSigns, c) {
			right, wrong = escaped, plain
		}
		if p := read(t, right); !p.Match(plain) || p.Match(string(c+1)) || p.Match(escaped) || p.Print() != right {
			t.Errorf("%q does not mean just %q", right, plain)
		}
		if p := read(t, "["+right+"]"); !p.Match(plain) || p.Match(string(c+1)) || p.Print() != "["+right+"]" {
			t.Errorf("[%s] does not mean just %q", right, plain)
		}
		if wrong == escaped {
			wantFault(t, wrong, at)
			wantFault(t, "["+wrong+"]", at+1)
			wantFault(t, "[a-"+wrong+"]", at+3)
			continue
		}
		if !strings.ContainsRune(`.|`, c) {
			wantFault(t, wrong, wrongSignAt(c))
		}
		if c != '^' {
			wantFault(t, "["+wrong, wrongInClassAt(c))
		}
		wantFault(t, "[^"+wrong, wrongInClassAt(c)+1)
		wantFault(t, "[\x00-"+wrong, wrongInClassAt(c)+2)
	}
}

// wrongSignAt: a sign that opens something lets the text go on.
func wrongSignAt(c rune) int {
	if strings.ContainsRune(`\[(`, c) {
		return 1
	}
	return 0
}

func wrongInClassAt(c rune) int {
	if c == '\\' {
		return 2
	}
	return 1
}

func TestManyBracketsBesideOneAnother(t *testing.T) {
	for _, s := range []string{strings.Repeat("()", 32), strings.Repeat("(", 16) + strings.Repeat(")", 16) + strings.Repeat("(", 16) + strings.Repeat(")", 16), strings.Repeat("(", 15) + "()()" + strings.Repeat(")", 15), strings.Repeat("(", 16) + "[a]" + strings.Repeat(")", 16), strings.Repeat("(", 16) + `\(` + strings.Repeat(")", 16), strings.Repeat("(", 16) + "|" + strings.Repeat(")", 16)} {
		if got := read(t, s).Print(); got != s {
			t.Errorf("Print of %q: %q", s, got)
		}
	}
}

func TestFaults(t *testing.T) {
	deep := strings.Repeat("(", 16)
	for s, at := range map[string]int{
		"a**": 2, "a*+": 2, "a??": 2, "a+*": 2, "*": 0, "+": 0, "?": 0, "a|*": 2, "(*)": 1, "(?)": 1, "(a|+)": 3, "a()**": 4,
		"(": 1, "(a": 2, "a(": 2, "((a)": 4, "(a|": 3, "(a|b": 4, "a)": 1, ")": 0, "())": 2, "(a))b": 3, "a|)": 2,
		"[": 1, "[]": 1, "[^": 2, "[^]": 2, "[a": 2, "[a-": 3, "[a-]": 3, "[a-b": 4, "[-a]": 1, "[--a]": 1, "[a-b-c]": 4, "[^^]": 2, "[a^]": 2, "[[]": 1, "[a[]": 2, "[]a]": 1, "[.]": 1, "[a*]": 2, "[(]": 1, "[a|b]": 2,
		"[b-a]": 3, "[ac-b]": 4, "[b-\\*]": 3, "[\\|-\\^]": 4, "[é-a]": 4, "[b-ab": 3, "(x[b-a": 5, "[é-\\x]": 5, "[é-\\": 5, "[b-\\a]": 4, "[z-\\-]": 3, "[z-\\-": 3, "[\U0010ffff-\U0010fffe]": 6,
		"\\": 1, "\\x": 1, "\\é": 1, "\\\n": 1, "a\\": 2, "[\\": 2, "[\\x]": 2, "[a\\": 3, "\\\\\\": 3, "\\\xff": 1, "[\\\xff": 2,
		"a-b": 1, "-": 0, "^": 0, "^a": 0, "a^": 1, "]": 0, "a]": 1, "[a]]": 3,
		"\xff": 0, "a\xffb": 1, "é\xc3": 2, "(\xff)": 1, "a*\xff": 2, "[a\xff]": 2, "[a-\xff]": 3, "[\xff-a]": 1, "\xe4\xb8": 0, "x\xed\xa0\x80": 1, "\xc0\x80": 0, "\xf4\x90\x80\x80": 0, "a)\xff": 1, "\xff)": 0, "世\xe4\xb8x": 3,
		deep + "(" + strings.Repeat(")", 17): 16, deep + "(": 16, "a|b" + deep + "(": 19, deep + ")(" + "(": 18, deep: 16, deep + strings.Repeat(")", 17): 32,
		strings.Repeat("a", 65): 64, strings.Repeat("*", 65): 64, strings.Repeat("é", 32) + "a": 64, strings.Repeat("a", 63) + "é": 64, "(" + strings.Repeat("a", 64): 64, strings.Repeat("a", 100000): 64, "\xff" + strings.Repeat("a", 64): 64,
		strings.Repeat("a", 63) + "(": 64,
	} {
		wantFault(t, s, at)
	}
}

func TestFaultsAreApart(t *testing.T) {
	_, one := Parse("(a")
	*one.(*api.Fault) = api.Fault{At: 77, Err: api.ErrAsk}
	wantFault(t, "(a", 2)
}

func TestPrint(t *testing.T) {
	for s, want := range map[string]string{
		"": "", "|": "|", "a||": "a||", "((a))": "((a))", "(x|y)z?": "(x|y)z?", "()*": "()*", "(()|())+": "(()|())+", ".*.+.?": ".*.+.?",
		`\\\.\[\]\(\)\|\*\+\?\^\-`: `\\\.\[\]\(\)\|\*\+\?\^\-`,
		"[cba]":                    "[a-c]", "[ab]": "[ab]", "[ba]": "[ab]", "[a-b]": "[ab]", "[a-c]": "[a-c]", "[a-a]": "[a]", "[aaa]": "[a]", "[a-cb-d]": "[a-d]", "[a-cd-f]": "[a-f]", "[d-fa-c]": "[a-f]", "[a-ce-g]": "[a-ce-g]", "[a-ce-gd]": "[a-g]", "[a-zc-d]": "[a-z]", "[c-da-z]": "[a-z]",
		"[za-c]": "[a-cz]", "[ade]": "[ade]", "[^0-9\\-]": "[^\\-0-9]", "[\\.a]": "[\\.a]", "[^ba]*": "[^ab]*", "[^b-b]": "[^b]",
		"[\\*\\+,\\-\\.]": "[\\*-\\.]", "[\\)-\\+]": "[\\)-\\+]", "[\\(\\)]": "[\\(\\)]", "[\\[-\\]]": "[\\[-\\]]", "[\\^\\]]": "[\\]\\^]",
		"[\ud7ff\ue000]": "[\ud7ff\ue000]", "[\ue000\ud7ff]": "[\ud7ff\ue000]", "[\ud7ff-\ue000]": "[\ud7ff-\ue000]", "[\ud7fe-\ud7ff\ue000-\ue001]": "[\ud7fe\ud7ff\ue000\ue001]",
		"[\x00-\U0010ffff]": "[\x00-\U0010ffff]", "[\U0010ffff\U0010fffe]": "[\U0010fffe\U0010ffff]", "[^\x00-\U0010ffff]": "[^\x00-\U0010ffff]", "[b-\U0010ffff\x00-a]": "[\x00-\U0010ffff]",
		"[éa-cè]": "[a-cèé]", "[\x7f\u0080\u0081]": "[\x7f-\u0081]",
		"[acegbdf]": "[a-g]", "[gecafdb]": "[a-g]", "[aceg]": "[aceg]", "[a-bd-eg-hc]": "[a-egh]",
	} {
		if got := read(t, s).Print(); got != want {
			t.Errorf("Print of %q: %q, not %q", s, got, want)
		}
	}
}

func TestWords(t *testing.T) {
	const all = "[^\x00-\U0010ffff]"
	for s, want := range map[string][]string{
		"": {""}, "|": {""}, "()": {""}, "()*": {""}, "()+": {""}, "()?": {""}, "(()*|)+": {""}, "a|": {"", "a"}, "(a|)": {"", "a"},
		"abc": {"abc"}, "b|a|b": {"a", "b"}, "(x|y)z?": {"x", "xz", "y", "yz"}, "[a-c]": {"a", "b", "c"}, "[ca]": {"a", "c"},
		"a?a?a?": {"", "a", "aa", "aaa"}, "(a|ab)(c|bc)": {"abbc", "abc", "ac"}, "é|z|~": {"z", "~", "é"}, "\ud7ff|\ue000|\U0010ffff": {"\ud7ff", "\ue000", "\U0010ffff"}, `\.\*\\`: {`.*\`},
		"[a-p]":      {"a", "b", "c", "d", "e", "f", "g", "h", "i", "j", "k", "l", "m", "n", "o", "p"},
		"(a|b)(a|b)": {"aa", "ab", "ba", "bb"}, "[a-p]|a|p": {"a", "b", "c", "d", "e", "f", "g", "h", "i", "j", "k", "l", "m", "n", "o", "p"},
		"a?b?c?d?": {"", "a", "ab", "abc", "abcd", "abd", "ac", "acd", "ad", "b", "bc", "bcd", "bd", "c", "cd", "d"},
		"[ab]?x|y": {"ax", "bx", "x", "y"}, "ab|a|abc|": {"", "a", "ab", "abc"},
		all: nil, all + "+": nil, "a" + all: nil, all + "a": nil, "." + all: nil, all + ".": nil, "a*" + all: nil, "(" + all + "|" + all + ")": nil, "(.|[a-z])" + all + "a*": nil,
		all + "*": {""}, all + "?": {""}, all + "|a": {"a"}, "x" + all + ".|y": {"y"}, all + "*a": {"a"}, "(a" + all + ")*": {""}, "(." + all + ")+|b": {"b"},
		"[\ud7ff-\ue000]": {"\ud7ff", "\ue000"}, "[^\x00-\ud7ff\ue000-\U0010ffff]": nil, "[^\x00-`b-\U0010ffff]": {"a"}, "[^\x00-\ud7fe\ue001-\U0010ffff]": {"\ud7ff", "\ue000"}, "[^\x00-\U0010fffe]": {"\U0010ffff"}, "[^\x01-\U0010ffff]": {"\x00"},
		"[^\x00-\ud7fe\ue00f-\U0010ffff]": {"\ud7ff", "\ue000", "\ue001", "\ue002", "\ue003", "\ue004", "\ue005", "\ue006", "\ue007", "\ue008", "\ue009", "\ue00a", "\ue00b", "\ue00c", "\ue00d", "\ue00e"},
		strings.Repeat("a", 64):           {strings.Repeat("a", 64)},
	} {
		got, isFew := read(t, s).Words()
		if !isFew || !slices.Equal(got, want) {
			t.Errorf("Words of %q: %q, %v; not %q", s, got, isFew, want)
		}
	}
}

func TestWordsOfMany(t *testing.T) {
	for _, s := range []string{"a*", "a+", "(a|)+", "(a|)*", "a|b*", "[^a]", ".", "x.", ".x", ".|x", "x|.", "[a-q]", "[a-p]?", "[a-p]|q", "q|[a-p]", "[a-p]|", "a?b?c?d?e?", "a?b?c?d?|x", "[a-e][a-d]", "([a-p]|q)x", "((a*)*)*b", ".?", ".*", "a?b?c?d?[ab]", "[^\x00-\ud7fe\ue010-\U0010ffff]", "[\x00-\U0010ffff]", strings.Repeat("a?", 32), "(ab)+", "(a|b)*c"} {
		if got, isFew := read(t, s).Words(); got != nil || isFew {
			t.Errorf("Words of %q: %q, %v", s, got, isFew)
		}
	}
}

func TestWordsAreNewMemory(t *testing.T) {
	for _, s := range []string{"b|a", "[a-c]", "(x|y)z?", "a?", "a", "(a|b)", "()+", "[ab]?"} {
		p := read(t, s)
		one, _ := p.Words()
		want := slices.Clone(one)
		two, _ := p.Words()
		one = one[:cap(one)]
		for i := range one {
			one[i] = "scribble"
		}
		three, _ := p.Words()
		if !slices.Equal(two, want) || !slices.Equal(three, want) {
			t.Errorf("Words of %q are shared: %q, %q", s, two, three)
		}
	}
}

// TestNoPatternIsSlow: the texts are so long that anything but a few steps for each of their bytes would not end.
func TestNoPatternIsSlow(t *testing.T) {
	long := strings.Repeat("a", 1<<18)
	for _, s := range []string{
		"((a*)*)*b", strings.Repeat("(", 16) + "a*" + strings.Repeat(")*", 16) + "b", "(a|a)*b", "(a|a?)+b", "(a?a?a?a?a?a?)*b", strings.Repeat("a*", 31) + "b", strings.Repeat("a?", 31) + "b", "(.*.*.*.*.*)*b", "((a+)+)+b", "(a*|a*|a*|(a*)+)*b", strings.Repeat("[^b]*", 12) + "b",
	} {
		p := read(t, s)
		if p.Match(long) {
			t.Errorf("%q means %d a", s, len(long))
		}
		if p.Match(long+"b") != (s != strings.Repeat("a?", 31)+"b") {
			t.Errorf("%q and %d a, b", s, len(long))
		}
	}
}

// TestPatternsStayAsTheyAre: what is asked of one, and of others, changes nothing of it, also at once.
func TestPatternsStayAsTheyAre(t *testing.T) {
	p, other := read(t, "(a|b)+c?"), read(t, "[^a-c]*")
	var group sync.WaitGroup
	for range 8 {
		group.Go(func() {
			for range 200 {
				other.Match("xyz")
				if !p.Match("abac") || p.Match("cc") || p.Print() != "(a|b)+c?" {
					t.Error("a pattern has changed")
				}
				if l, isFew := p.Words(); l != nil || isFew {
					t.Error("Words have changed")
				}
			}
		})
	}
	group.Wait()
}
