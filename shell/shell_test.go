package shell

import (
	"fmt"
	"math"
	"runtime/metrics"
	"strings"
	"testing"

	"turnkey/api"
)

func fresh(t *testing.T, cap, slots int) *Shell {
	t.Helper()
	s, e := New("op", cap, slots)
	if e != api.OK || s == nil {
		t.Fatalf("W1: New: %d", e)
	}
	return s
}

// plays does lines, each with its answer behind it.
func plays(t *testing.T, s *Shell, l ...string) {
	t.Helper()
	for i := 0; i < len(l); i += 2 {
		if a := s.Do(l[i]); a != l[i+1] {
			t.Errorf("W2: %s: %s; want %s", short(l[i]), short(a), short(l[i+1]))
		}
	}
}

// begin is a tenant t, and a token k of it that may do all.
var begin = []string{"make t 5 100", "ok", "grant t k 15 {}", "ok"}

// The chapter's examples.
func TestExamples(t *testing.T) {
	plays(t, fresh(t, 4096, 4),
		"make t 2 100", "ok",
		"grant t k 15 {}", "ok",
		`grant t e 6 {a="x"}`, "ok",
		`write t k 2 1000 0000000000000005 2000 0000000000000007 {a="x"}`, "ok",
		`write t k 1 1500 0000000000000001 {a="x"}`, "error 140",
		`write t k 1 1 00000000000000ff {a="y"}`, "ok",
		`write t k 1 1 0000000000000001 {a="z"}`, "error 150",
		"query t e 0 1500 {}", `{a="x"}: 1000/0000000000000005`,
		"count t k {}", "2",
		"count t e {}", "1",
		"values t e a {}", `"x"`,
		"ask t k most by (a) {}", `{a="x"}=>7; {a="y"}=>255`,
		`write t e 1 9000 0000000000000001 {a="x"}`, "error 161",
		"count u k {}", "error 160",
		"count t q {}", "error 160",
		"slots t", "2",
		"crash 0", "ok",
		"count t k {}", "dead",
		"open", "ok",
		"count t k {}", "2",
		"remove t k", "ok",
		"count t k {}", "error 160",
		"slots t", "0",
		"what", "error 230",
	)
}

// The document's examples of the whole.
func TestExamplesOfTheWhole(t *testing.T) {
	plays(t, fresh(t, 4096, 4), // 1
		"make t 5 100", "ok", "make u 5 100", "ok", "grant t k 15 {}", "ok", "grant u k 2 {}", "ok",
		`write t k 1 5 0000000000000009 {a="x"}`, "ok",
		`write u k 1 5 0000000000000009 {a="x"}`, "error 161",
		"query u k 0 9 {}", "-",
		"query t k 0 9 {}", `{a="x"}: 5/0000000000000009`,
	)
	plays(t, fresh(t, 4096, 4), // 2 and 3
		"make t 5 100", "ok", "grant t k 15 {}", "ok", `grant t e 6 {a!="y"}`, "ok",
		`write t k 1 1 0000000000000001 {a="x"}`, "ok",
		`write t k 1 1 0000000000000001 {a="y", b="1"}`, "ok",
		`write t k 1 1 0000000000000001 {b="2"}`, "ok",
		"count t e {}", "2",
		"names t e {}", `"a" "b"`,
		"values t e b {}", `"2"`,
		`count t e {a="y"}`, "0",
		"ask t e count by (a) {}", `=>1; {a="x"}=>1`,
		"ask t k count by (a) {}", `=>1; {a="x"}=>1; {a="y"}=>1`,
		"count t z {}", "error 160", "count nobody k {}", "error 160", "count T! k {}", "error 160",
		"revoke t e", "ok", "count t e {}", "error 160",
		"raw 0401740 17a00", "error 230", "raw 040174017a00", "a001", "raw 04", "b401",
	)
	plays(t, fresh(t, 4096, 4), // 4
		"make t 2 100", "ok", "grant t k 15 {}", "ok", "grant t r 6 {}", "ok",
		`write t k 1 10 0000000000000001 {a="x"}`, "ok",
		`write t k 2 11 0000000000000001 11 0000000000000001 {a="x"}`, "error 140",
		`write t r 2 11 0000000000000001 11 0000000000000001 {a="x"}`, "error 161",
		`write t k 1 1 0000000000000001 {a="y"}`, "ok",
		`write t k 1 1 0000000000000001 {a="z"}`, "error 150",
	)
	plays(t, fresh(t, 4096, 1), // 6
		"make t 5 100", "ok", "make u 5 100", "ok", "grant t k 15 {}", "ok", "grant u k 15 {}", "ok",
		`write t k 1 5 0000000000000009 {a="x"}`, "ok",
		`write u k 1 5 0000000000000009 {a="x"}`, "error 110",
		"drop t", "ok",
		`write u k 1 5 0000000000000009 {a="x"}`, "ok",
	)
}

func TestWindows(t *testing.T) { // 5
	plays(t, fresh(t, 4096, 4),
		"make t 1 2", "ok", "grant t k 15 {}", "ok", "tick 0", "ok",
		`write t k 2 1 0000000000000001 2 0000000000000001 {a="x"}`, "ok",
		`write t k 1 3 0000000000000001 {a="x"}`, "error 151",
		"tick 60000", "ok",
		`write t k 1 3 0000000000000001 {a="x"}`, "ok",
		"tick 0", "ok",
		`write t k 1 4 0000000000000001 {a="x"}`, "ok",
		`write t k 1 5 0000000000000001 {a="x"}`, "error 151",
		"crash 0", "ok", "open", "ok",
		`write t k 1 5 0000000000000001 {a="x"}`, "error 151",
	)
}

func TestPowerAndWaiting(t *testing.T) { // 7, 9 and 10
	write := `write t k 1 5 0000000000000009 {a="x"}`
	plays(t, fresh(t, 4096, 4),
		"make t 2 100", "ok", "grant t k 15 {}", "ok",
		"fuse 1 0", "ok", write, "dead", "count t k {}", "dead", "open", "ok", "count t k {}", "0",
		"fuse 1 1000", "ok", write, "dead", "open", "ok", "count t k {}", "1", write, "error 140",
		"remove t k", "ok", "count t k {}", "error 160", "slots t", "0",
		"make t 2 100", "ok", "grant t k 15 {}", "ok",
		`write t k 1 -5 0000000000000001 {a="x"}`, "ok",
		`wait write t k 1 50 0000000000000001 {a="x"}`, "ok",
		`wait write t k 1 50 0000000000000001 {a="x"}`, "ok",
		"wait state", "ok", "wait count t k {}", "ok",
		"go 4", "ok | error 140 | 1",
		"go 4", "-",
	)
}

func TestFullLog(t *testing.T) { // 8
	s := fresh(t, 1024, 4)
	plays(t, s, "state", "bytes 34 free 4 tenants 0")
	for i := range 43 {
		plays(t, s, fmt.Sprintf("make %016d 1 1", i), "ok")
	}
	plays(t, s, "make nextnextnextnext 1 1", "error 60", "drop 0000000000000007", "ok", "make nextnextnextnext 1 1", "ok", "make 0000000000000007 1 1", "error 60")
	if a := s.Do("state"); !strings.HasSuffix(a, " free 4 tenants 43") {
		t.Errorf("W2: state: %q", a)
	}
}

// W1
func TestNew(t *testing.T) {
	for _, c := range []struct {
		operator   string
		cap, slots int
		want       api.Errno
	}{
		{"", 4096, 4, api.ErrArg}, {strings.Repeat("o", 65), 4096, 4, api.ErrArg},
		{"op", 1023, 4, api.ErrArg}, {"op", 0, 4, api.ErrArg}, {"op", -1, 4, api.ErrArg}, {"op", api.MaxLog + 1, 4, api.ErrArg},
		{"op", 1024, 0, api.ErrArg}, {"op", 1024, -1, api.ErrArg}, {"op", 1024, api.MaxSlots + 1, api.ErrArg}, {"", 0, 0, api.ErrArg},
		{"o", 1024, 1, api.OK}, {strings.Repeat("o", 64), api.MaxLog, api.MaxSlots, api.OK}, {"o p\n\xff", 4096, 4, api.OK},
	} {
		s, e := New(c.operator, c.cap, c.slots)
		if e != c.want || (s == nil) != (c.want != api.OK) {
			t.Errorf("W1: New(%q, %d, %d): %d; want %d", c.operator, c.cap, c.slots, e, c.want)
		}
		if s == nil {
			continue
		}
		plays(t, s,
			"state", fmt.Sprintf("bytes 34 free %d tenants 0", c.slots), "go 2", "-",
			"make t 1 1", "ok", "grant t k 15 {}", "ok", "count t k {}", "0", "drop t", "ok",
		)
	}
}

// The disk has two files, and nobody else's.
func TestNewDisk(t *testing.T) {
	s, other := fresh(t, 4096, 4), fresh(t, 4096, 4)
	if s.disk.Size(1) != 0 || s.disk.Size(2) != -1 {
		t.Errorf("W1: files of %d and %d bytes", s.disk.Size(1), s.disk.Size(2))
	}
	plays(t, s, "make t 1 1", "ok", "crash 0", "ok")
	plays(t, other, "state", "bytes 34 free 4 tenants 0", "make t 1 1", "ok")
}

// The time is 0 at first: what is written then is written in the first window.
func TestNewIsAtNoTime(t *testing.T) {
	plays(t, fresh(t, 4096, 4),
		"make t 1 1", "ok", "grant t k 15 {}", "ok", `write t k 1 1 0000000000000001 {a="x"}`, "ok",
		"tick 59999", "ok", `write t k 1 2 0000000000000001 {a="x"}`, "error 151",
		"tick 60000", "ok", `write t k 1 2 0000000000000001 {a="x"}`, "ok",
	)
}

// The operator's token is the operator's alone, whatever words there are.
func TestOperatorsToken(t *testing.T) {
	s, e := New("k", 4096, 4)
	if e != api.OK {
		t.Fatal(e)
	}
	plays(t, s,
		"make t 5 100", "ok", "count t k {}", "error 160", "remove t k", "error 160",
		"grant t k 4 {}", "ok", "count t k {}", "0", "remove t k", "error 161",
		"raw 100174016b0101", "a301", // Make of t by k
		"raw 100175016b0101", "0000",
		"raw 100176016c0101", "a001", // by l
	)
}

// W2: with too few words, or too many, or words that may not be what they must be, no line does anything.
func TestLinesThatAreNone(t *testing.T) {
	s := fresh(t, 4096, 4)
	plays(t, s, begin...)
	plays(t, s, `write t k 1 5 0000000000000009 {a="x"}`, "ok", "wait count t k {}", "ok")
	was := s.disk.Copy()
	long := strings.Repeat("x", 65)
	for _, line := range []string{
		"", " ", "     ", "what", "Make u 1 1", "MAKE u 1 1", "makes u 1 1", "mak u 1 1", "\x00", "\xff", "-", "230", "\tstate", "state\t", "state\n", "state\r",
		"make", "make u", "make u 1", "make u 1 1 1", "make u 1 1 {}", "make u x 1", "make u 1 x", "make u -1 1", "make u 1 -1", "make u 1099511627776 1", "make u 1 1099511627776", "make " + long + " 1 1",
		"drop", "drop t t", "drop " + long,
		"grant", "grant t", "grant t l", "grant t l 15", "grant t l 15 ", "grant t l 15 {", "grant t l 15 {a}", "grant t l 15 {} {}", "grant t l 15 x {}", "grant t l x {}", "grant t l -1 {}", "grant t l 1099511627776 {}", "grant t " + long + " 15 {}", "grant t l 15{}",
		"revoke", "revoke t", "revoke t k k", "revoke t " + long,
		"write", "write t", "write t k", "write t k 1", "write t k 1 6", "write t k 1 6 0000000000000009", "write t k 1 6 0000000000000009 ", `write t k 1 6 {a="x"}`, `write t k {a="x"}`,
		`write t k 0 {a="x"}`, `write t k -1 {a="x"}`, `write t k 2 6 0000000000000009 {a="x"}`, `write t k 1 6 0000000000000009 7 0000000000000009 {a="x"}`, `write t k 9223372036854775807 6 0000000000000009 {a="x"}`, `write t k x 6 0000000000000009 {a="x"}`,
		`write t k 1 x 0000000000000009 {a="x"}`, `write t k 1 6 9 {a="x"}`, `write t k 1 6 000000000000000g {a="x"}`, `write t k 1 6 00000000000000009 {a="x"}`, "write t k 1 6 0000000000000009 {}", `write t k 1 6 0000000000000009 {a="x"} x`, `write t k 1 6 0000000000000009 {a=""}`, `write t k 1 6 0000000000000009 {a=~"x"}`,
		`write t ` + long + ` 1 6 0000000000000009 {a="x"}`, `write t k 257` + strings.Repeat(" 6 0000000000000009", 257) + ` {a="x"}`,
		"query", "query t", "query t k", "query t k 0", "query t k 0 9", "query t k 0 9 {a}", "query t k x 9 {}", "query t k 0 x {}", "query t k 0 9 9 {}", "query t k 0 9223372036854775808 {}", "query t k -9223372036854775809 0 {}",
		"ask", "ask t", "ask t k " + strings.Repeat("x", 4097), "ask " + long + " k count {}",
		"count", "count t", "count t k", "count t k ", "count t k {", "count t k {} x", "count t k{}", "count t " + long + " {}", "count t k " + `{a="` + long + `"}`, "count t k {" + strings.Repeat(`a="x",`, 8) + `a="x"}`,
		"names", "names t", "names t k", "names t k x", "names t k {a!x}",
		"values", "values t", "values t k", "values t k a", "values t k {}", "values t k a x", "values t k " + long + " {}",
		"remove", "remove t", "remove t k k", "remove t " + long,
		"raw", "raw 0", "raw 04 04", "raw 0G", "raw 0A", "raw 0x", "raw zz", "raw -1", "raw +1", "raw 040174016b0", "raw 04017 4016b00",
		"tick", "tick x", "tick 1 1", "tick 01", "tick 9223372036854775808",
		"fuse", "fuse 1", "fuse 1 1 1", "fuse x 1", "fuse 1 x",
		"crash", "crash x", "crash 0 0", "crash 00",
		"open x", "open 0", "state x", "slots", "slots t t", "slots t {}", "go", "go x", "go 2 2", "go 2 {}",
	} {
		if a := s.Do(line); a != "error 230" {
			t.Errorf("W2: %s: %s", short(line), short(a))
		}
	}
	if !sameDisks(s.disk, was) {
		t.Error("P2: what is refused changes the disk")
	}
	plays(t, s, "fuse 9 9", "ok", "open", "ok", "query t k -9 9 {}", `{a="x"}: 5/0000000000000009`, "names t k {}", `"a"`, "go 1", "1", "state", "bytes 118 free 3 tenants 1")
}

// A number has one form.
func TestNumbers(t *testing.T) {
	s := fresh(t, 4096, 4)
	plays(t, s, begin...)
	for _, c := range []struct{ word, want string }{
		{"0", "-"}, {"1", "-"}, {"9", "-"}, {"10", "-"}, {"-1", "-"}, {"-10", "-"}, {"9223372036854775807", "-"}, {"-9223372036854775808", "-"}, {"1234567890", "-"},
		{"9223372036854775808", ""}, {"-9223372036854775809", ""}, {"18446744073709551616", ""}, {strings.Repeat("9", 99), ""},
		{"00", ""}, {"01", ""}, {"-0", ""}, {"-00", ""}, {"-01", ""}, {"--1", ""}, {"-", ""}, {"+1", ""}, {"+0", ""}, {"1_0", ""}, {"0x1", ""}, {"0b1", ""}, {"1e3", ""}, {"1.0", ""}, {"1,0", ""}, {"a", ""}, {"1a", ""}, {"\t1", ""}, {"1\t", ""}, {"１", ""}, {"\xff", ""},
	} {
		if c.want == "" {
			c.want = "error 230"
		}
		plays(t, s, "query t k "+c.word+" 9223372036854775807 {}", c.want)
	}
}

// A bits word is sixteen digits.
func TestBits(t *testing.T) {
	s := fresh(t, 1<<20, 400)
	plays(t, s, begin...)
	at := 0
	for _, word := range []string{"0000000000000000", "0000000000000001", "8000000000000000", "ffffffffffffffff", "0123456789abcdef", "fedcba9876543210", "00000000000000ff"} {
		at++
		plays(t, s, fmt.Sprintf(`write t k 1 %d %s {a="x"}`, at, word), "ok", fmt.Sprintf("query t k %d %d {}", at, at), fmt.Sprintf(`{a="x"}: %d/%s`, at, word))
	}
	for _, word := range []string{"", "0", "000000000000000", "00000000000000000", "000000000000000A", "000000000000000g", "+000000000000001", "-000000000000001", "0x00000000000001", "000_000000000001", "00000000\t0000001", "000000000000001\xff", "0000000０000001"} {
		plays(t, s, fmt.Sprintf(`write t k 1 99 %s {a="x"}`, word), "error 230")
	}
}

// Blanks may be as many as one likes; the rest is what stands behind one of them.
func TestBlanks(t *testing.T) {
	s := fresh(t, 4096, 4)
	plays(t, s,
		"   make  t   5 100  ", "ok", "  grant    t k     15   {  }   ", "ok", "grant t e 6 {}", "ok", " revoke  t  e ", "ok",
		`  write t   k  1  5   0000000000000009   { a = "x  y" }  `, "ok",
		" query   t  k -9   9   {  } ", `{a="x  y"}: 5/0000000000000009`,
		`count t k {a="x y"}`, "0", `count t k   {a="x  y"}`, "1",
		"  ask  t  k   most   {}  ", `{a="x  y"}=>9`, "names  t  k   {}", `"a"`, "values  t  k  a   {}", `"x  y"`,
		"  raw   040174016b00  ", "000301", "  tick  7 ", "ok", " fuse  9  9 ", "ok", "  slots  t  ", "1", "  state ", "bytes 213 free 3 tenants 1",
		"  wait   count  t  k  {} ", "ok", " wait", "ok", "wait ", "ok", "wait    ", "ok", "  go   2 ", "1", "  crash  0  ", "ok", "  open  ", "ok",
		" remove  t  k ", "ok", "make t 1 1", "ok", " drop  t ", "ok",
	)
	// A question of 4096 bytes may be, and the first blank is none of them.
	question := strings.Repeat(" ", 4096-len("count {}")) + "count {}"
	plays(t, s, "make t 1 1", "ok", "grant t k 15 {}", "ok", "ask t k "+question, "-", "ask t k  "+question, "error 230", "ask t k", "error 190", "ask t k ", "error 190")
}

// What other bytes there are in a word is for the layers to say.
func TestAnyWords(t *testing.T) {
	s := fresh(t, 4096, 4)
	long := strings.Repeat("x", 64)
	plays(t, s, begin...)
	plays(t, s,
		"make t\n 1 1", "error 170", "make \xff 1 1", "error 170", "make "+long+" 1 1", "error 170", "drop u", "error 171", "drop T", "error 170",
		"grant t \n\xff 4 {}", "ok", "count t \n\xff {}", "0", "count t \n {}", "error 160", "grant t "+long+" 4 {}", "ok", "count t "+long+" {}", "0",
		"grant t k 15 {}", "error 163", "grant t x 0 {}", "error 1", "grant t x 16 {}", "error 1", "revoke t q", "error 160",
		"make u 0 1", "error 152", "make u 1 1000001", "error 152", "make t 1 1", "error 163",
		"query t k 1 0 {}", "error 1", "values t k "+long+" {}", "-", "values t k \n {}", "-", "slots \xff", "0", "slots "+long+long, "0",
	)
}

// Labels come in whatever order; values are told as label.Print writes them.
func TestTold(t *testing.T) {
	s := fresh(t, 1<<14, 9)
	plays(t, s, "query t k 0 9 {}", "error 160")
	plays(t, s, begin...)
	plays(t, s,
		"query t k 0 9 {}", "-", "names t k {}", "-", "values t k a {}", "-", "ask t k most {}", "-", "count t k {}", "0",
		`write t k 2 -9223372036854775808 ffffffffffffffff 9223372036854775807 0000000000000000 {c="}; {",b="\"\\\n",a="é"}`, "ok",
		`query t k -9223372036854775808 9223372036854775807 {}`, `{a="é", b="\"\\\n", c="}; {"}: -9223372036854775808/ffffffffffffffff 9223372036854775807/0000000000000000`,
		`values t k b {}`, `"\"\\\n"`, `values t k c {}`, `"}; {"`, `names t k {}`, `"a" "b" "c"`,
		`write t k 1 1 000000000000000a {b=" \" \" "}`, "ok",
		`values t k b {}`, `" \" \" " "\"\\\n"`,
		`query t k 1 1 {}`, `{b=" \" \" "}: 1/000000000000000a`,
		`query t k 0 9223372036854775807 {}`, `{a="é", b="\"\\\n", c="}; {"}: 9223372036854775807/0000000000000000; {b=" \" \" "}: 1/000000000000000a`,
		"ask t k most by (a) {}", `=>10; {a="é"}=>18446744073709551615`,
		"ask t k last by (none) {}", "=>0",
		"ask t k count {a=\"none\"}", "-",
		"count t k {}", "2",
		"write t k 1 2 0000000000000001 {d=\"\t\r\x00\x7f\u0085\u200b'/<\"}", "ok", "values t k d {}", "\"\t\r\x00\x7f\u0085\u200b'/<\"", `query t k 2 2 {d!=""}`, "{d=\"\t\r\x00\x7f\u0085\u200b'/<\"}: 2/0000000000000001",
	)
}

// What raw is told is what is asked by words; and it asks whatever it likes.
func TestRaw(t *testing.T) {
	s := fresh(t, 4096, 4)
	plays(t, s, begin...)
	plays(t, s,
		"raw 040174016b00", "000300", "raw 10017502"+"6f70"+"0101", "0000", "slots u", "0", "count u k {}", "error 160",
		"raw 00", "b401", "raw ff", "b401", "raw "+strings.Repeat("00", 65537), "b401", "raw 0a", "b401", "raw 0A", "error 230",
		"raw 110175026f70", "0000", "raw 110175026f70", "ab01",
		"wait raw 040174016b00", "ok", "go 2", "-",
		"crash 0", "ok", "raw 040174016b00", "dead", "raw 04", "dead", "raw 0", "error 230",
	)
}

// The time is what the last tick said that was `ok`, also behind a fall.
func TestTick(t *testing.T) {
	s := fresh(t, 4096, 4)
	plays(t, s,
		"make t 1 2", "ok", "grant t k 15 {}", "ok",
		"tick 60000", "ok", "tick -1", "error 1", "tick 1125899906842625", "error 1", "tick x", "error 230",
		"crash 0", "ok", "tick 120000", "error 40", "tick -1", "error 40", "open", "ok",
		`write t k 2 1 0000000000000001 2 0000000000000001 {a="x"}`, "ok", // in the window 1
		"tick 0", "ok", `write t k 1 3 0000000000000001 {a="x"}`, "error 151",
		"tick 119999", "ok", `write t k 1 3 0000000000000001 {a="x"}`, "error 151",
		"open", "ok", "tick 120000", "ok", `write t k 1 3 0000000000000001 {a="x"}`, "ok",
		"tick 1125899906842624", "ok", `write t k 2 4 0000000000000001 5 0000000000000001 {a="x"}`, "ok",
	)
}

// Of both files as much is kept; a checkpoint writes the one that the records do not lie in.
func TestPower(t *testing.T) {
	write := `write t k 1 5 0000000000000009 {a="x"}`
	s := fresh(t, 4096, 4)
	plays(t, s, begin...)
	plays(t, s,
		"fuse -1 0", "error 1", "fuse 0 -1", "ok", write, "dead", "fuse 1 1", "error 40", "fuse -1 1", "error 40", "crash 5", "ok",
		"state", "bytes 0 free 0 tenants 0", "slots t", "0", "go 2", "-", "wait count t k {}", "ok", "wait count", "ok", "wait names t k {}", "ok", "go 2", "dead | dead", "go 2", "-",
		"wait count t k {}", "ok", "open", "ok", "count t k {}", "0", "go 2", "0",
		"fuse 0 0", "ok", "open", "ok", write, "ok", "slots t", "1", // no fuse is left
		"fuse 2 0", "ok", `write t k 1 6 0000000000000009 {a="x"}`, "ok", `write t k 1 7 0000000000000009 {a="x"}`, "dead", "open", "ok", "query t k 6 9 {}", `{a="x"}: 6/0000000000000009`,
		"crash 9223372036854775807", "ok", "crash -9223372036854775808", "ok", "open", "ok", "open", "ok", "query t k 6 9 {}", `{a="x"}: 6/0000000000000009`,
	)
	for keep := range 80 {
		for f := range 2 {
			s := fresh(t, 4096, 4)
			s.disk.Append(f, make([]byte, 50))
			plays(t, s, fmt.Sprintf("crash %d", keep), "ok")
			if n := s.disk.Size(f); n != min(keep, 50)+34*(1-f) {
				t.Fatalf("W2: crash %d: %d bytes of the file %d", keep, n, f)
			}
			s = fresh(t, 4096, 4)
			s.disk.Append(f, make([]byte, 50))
			plays(t, s, fmt.Sprintf("fuse 0 %d", keep), "ok", "make t 1 1", "dead")
			if n := s.disk.Size(1); f == 1 && n != min(keep, 50) {
				t.Fatalf("W2: fuse 0 %d: %d bytes of the file 1", keep, n)
			}
		}
	}
}

// Where no stack can be opened there is none, until one can.
func TestNoStack(t *testing.T) {
	for _, line := range []string{"open", "crash 0"} {
		s := fresh(t, 4096, 4)
		plays(t, s, begin...)
		plays(t, s, "tick 60000", "ok", "wait count t k {}", "ok", "wait state", "ok")
		first := s.disk.Copy()
		s.disk.Truncate(0, 0)
		if line == "crash 0" {
			plays(t, s, line, "ok")
		}
		plays(t, s,
			"open", "error 61", "open", "error 61", "open x", "error 230",
			"make u 1 1", "dead", "count t k {}", "dead", "count t", "error 230", "raw 040174016b00", "dead", "raw 0", "error 230",
			"tick 5", "error 40", "tick -1", "error 40", "tick x", "error 230", "state", "bytes 0 free 0 tenants 0", "slots t", "0",
			"go 3", "dead", "go 3", "-", "wait drop t", "ok",
			"fuse 5 5", "ok", "crash 0", "ok", "fuse 5 5", "error 40", "tick 5", "error 40", "count t k {}", "dead", "open", "error 61",
		)
		if s.disk.Size(0) != 0 || s.disk.Size(1) != 0 {
			t.Error("W2: where no stack is something is written")
		}
		s.disk = first
		plays(t, s, "open", "ok", "count t k {}", "0", "state", "bytes 96 free 4 tenants 1", "go 1", "ok", "count t k {}", "error 160")
	}
	s := fresh(t, 4096, 4)
	b, _ := s.disk.Read(0, 0, s.disk.Size(0))
	s.disk.Append(1, b)
	plays(t, s, "open", "error 62", "state", "bytes 0 free 0 tenants 0")
}

// What waits are requests alone, in their order, each of them once.
func TestWaiting(t *testing.T) {
	for _, workers := range []string{"-9223372036854775808", "-1", "0", "1", "2", "16", "17", "9223372036854775807"} {
		s := fresh(t, 1<<14, 9)
		var want []string
		for i := range 40 {
			plays(t, s, fmt.Sprintf("wait make %d 5 100", i/2), "ok")
			want = append(want, []string{"ok", "error 163"}[i%2])
		}
		for _, line := range []string{"", " ", "state", "slots 0", "tick 60000", "fuse 0 0", "crash 0", "open", "raw 04", "go 2", "wait count t k {}", "what", "make", "make u 1", "make u 1 1 1", "make u -1 1", "count t k", "write t k 0 {}"} {
			plays(t, s, "wait "+line, "ok")
		}
		plays(t, s, "state", "bytes 34 free 9 tenants 0", "go", "error 230", "go x", "error 230")
		for _, c := range [][2]string{{"grant 0 k 15 {}", "ok"}, {`write 0 k 1 1 0000000000000001 {a="x y",b="|"}`, "ok"}, {"  query  0 k 0 9  {} ", `{a="x y", b="|"}: 1/0000000000000001`}, {"ask 0 k count {}", `{a="x y", b="|"}=>1`}, {"ask 0 k", "error 190"}, {"count 0 k {}", "1"}, {"names 0 k {}", `"a" "b"`}, {"values 0 k c {}", "-"}, {"revoke 0 e", "error 160"}, {"remove 0 k", "ok"}, {"drop 0", "error 171"}} {
			plays(t, s, "wait "+c[0], "ok")
			want = append(want, c[1])
		}
		plays(t, s, "go "+workers, strings.Join(want, " | "), "go "+workers, "-", "slots 0", "0")
	}
}

func goroutinesSoFar() int {
	l := []metrics.Sample{{Name: "/sched/goroutines-created:goroutines"}}
	metrics.Read(l)
	return int(l[0].Value.Uint64())
}

// goesBy is how many goroutines a go with so many workers begins. Now and then the runtime begins one of its own: the least of some counts is the call's.
func goesBy(t *testing.T, workers int) int {
	least := math.MaxInt
	for range 5 {
		s := fresh(t, 4096, 4)
		plays(t, s, "wait count t k {}", "ok", "wait count t k {}", "ok")
		was := goroutinesSoFar()
		plays(t, s, fmt.Sprintf("go %d", workers), "error 160 | error 160")
		least = min(least, goroutinesSoFar()-was)
	}
	return least
}

// Go is by as many workers as it says, where there may be so many.
func TestWorkers(t *testing.T) {
	if two, nine := goesBy(t, 2), goesBy(t, 9); nine != two+7 {
		t.Errorf("W2: go 2 begins %d goroutines, go 9 %d", two, nine)
	}
	if one, none, many := goesBy(t, 1), goesBy(t, -1), goesBy(t, 17); one != none || many != none {
		t.Errorf("W2: go 1 begins %d goroutines, go -1 %d, go 17 %d", one, none, many)
	}
}

// W3
func TestRun(t *testing.T) {
	for _, c := range []struct{ lines, want string }{
		{"", ""},
		{"\n", "error 230\n"},
		{"\n\n", "error 230\nerror 230\n"},
		{"go 1", "-\n"},
		{"go 1\n", "-\n"},
		{"go 1\n\n", "-\nerror 230\n"},
		{"\ngo 1", "error 230\n-\n"},
		{"go 1\n ", "-\nerror 230\n"},
		{"go 1\r\ngo 1", "error 230\n-\n"},
		{"go 1\x00go 1\vgo 1\u2028go 1\u0085", "error 230\n"},
		{"wait count t k {}\ngo 1\n \n  go 1", "ok\nerror 160\nerror 230\n-\n"},
		{"wait\nmake t 1 1\ngo 1", "ok\nok\n-\n"},
		{"make \xff 1 1\nmake t 1 1\nmake t 1 1", "error 170\nok\nerror 163\n"},
	} {
		if got := fresh(t, 4096, 4).Run(c.lines); got != c.want {
			t.Errorf("W3: %q: %q; want %q", c.lines, got, c.want)
		}
	}
	s := fresh(t, 4096, 4)
	if a, b := s.Run("make t 1 1"), s.Run("make t 1 1\ntick 60000"); a != "ok\n" || b != "error 163\nok\n" || s.now != 60000 {
		t.Errorf("W3: %q, %q: a shell goes on where it was", a, b)
	}
}
