package shell

import (
	"fmt"
	"math/rand"
	"slices"
	"strconv"
	"strings"

	"turnkey/api"
	"turnkey/wire"
)

func pick[T any](r *rand.Rand, l ...T) T { return l[r.Intn(len(l))] }

// often is the usual thing, but for one time in so many.
func often[T any](r *rand.Rand, seldom int, usual T, l ...T) T {
	if r.Intn(seldom) == 0 {
		return pick(r, l...)
	}
	return usual
}

var oddNumbers = []string{"", "00", "01", "-0", "-01", "--1", "+1", "-", "1_0", "0x1", "1e3", "1.0", "x", "9223372036854775807", "9223372036854775808", "-9223372036854775808", "-9223372036854775809", "99999999999999999999", "1099511627775", "1099511627776", "１"}

func someTenant(r *rand.Rand) string {
	return often(r, 30, pick(r, "t", "t", "t", "u"), "T!", "t\t", "nobody", strings.Repeat("t", 16), strings.Repeat("t", 17), strings.Repeat("t", 64), strings.Repeat("t", 65), "\xff", "{}", "0")
}

func someToken(r *rand.Rand) string {
	return often(r, 30, pick(r, "k", "k", "k", "e"), "z", "op", strings.Repeat("k", 64), strings.Repeat("k", 65), "\xff\n", "{}")
}

func someNumber(r *rand.Rand, usual int64) string {
	return often(r, 40, fmt.Sprint(usual), oddNumbers...)
}

func someBits(r *rand.Rand) string {
	return often(r, 60, fmt.Sprintf("%016x", pick(r, 0, 1, 255, r.Uint64())), "", "1", "000000000000000A", "00000000000000001", "000000000000001", "000000000000000g", "+000000000000001", "0x00000000000001", "-000000000000001", "000_000000000001")
}

func someLabels(r *rand.Rand) string {
	return often(r, 30, pick(r, `{a="x"}`, `{a="y", b="1"}`, `{b="2"}`, `{b="1",a="x"}`, ` { a = "x" } `, `{a="q\"\\\n} é, "}`, `{a="`+fmt.Sprint(r.Intn(50))+`"}`), "", "{}", `{a=""}`, `{a="x"`, `{a="x"} b`, `{a="x", a="y"}`, `{1="x"}`, "{a=\"x\ny\"}", `{a!="x"}`)
}

func someMatchers(r *rand.Rand) string {
	return often(r, 30, pick(r, "{}", "{}", "{}", `{a="x"}`, `{a!="y"}`, `{b=~"1|2"}`, ` {  } `, `{a!~"x.*", b=""}`, `{a="q\"\\\n} é, "}`), "", "{", "{a}", `{a=~"("}`, `{a="x"} b`, `{1="x"}`, `x`)
}

func someQuestion(r *rand.Rand) string {
	return often(r, 20, pick(r, "most", "count", "first", "last", "least", "distinct")+pick(r, "", " by (a)", " by (b, a)", " by (c)")+" "+someMatchers(r)+pick(r, "", "", " from 3 to 90", " to 20", " limit 2"), "", " ", "sum {}", "count", "most {} limit 0", strings.Repeat(" ", 4090)+"most {}", "\xff")
}

// spaced puts blanks between words, mostly one.
func spaced(r *rand.Rand, l ...string) string {
	var out strings.Builder
	out.WriteString(often(r, 20, "", " ", "   "))
	for i, word := range l {
		if i > 0 {
			out.WriteString(often(r, 30, " ", "  ", "    ", "\t", ""))
		}
		out.WriteString(word)
	}
	out.WriteString(often(r, 20, "", " ", "  ", " x", "\t"))
	return out.String()
}

func someWrite(r *rand.Rand, clock int64) string {
	n := often(r, 10, 1+r.Intn(3), 9, 100, 256, 257)
	l := []string{"write", someTenant(r), someToken(r)}
	l = append(l, often(r, 40, fmt.Sprint(n), append(slices.Clone(oddNumbers), "0", "-1", fmt.Sprint(n+1), fmt.Sprint(n-1))...))
	for i := range n {
		l = append(l, someNumber(r, clock+int64(i)-pick[int64](r, 0, 0, 0, 1, 9)), someBits(r))
	}
	return spaced(r, append(l, someLabels(r))...)
}

// someRequest is a line that is a request, or nearly so.
func someRequest(r *rand.Rand, clock int64) string {
	name, token := someTenant(r), someToken(r)
	switch r.Intn(16) {
	case 0:
		return spaced(r, "make", name, someNumber(r, pick[int64](r, 5, 1, 100, 0)), someNumber(r, pick[int64](r, 100, 10, 1000000, 1000001)))
	case 1:
		return spaced(r, often(r, 8, "make "+fmt.Sprintf("%016d", r.Intn(60))+" 1 1", "drop "+name, "remove "+name+" "+token))
	case 2:
		return spaced(r, "grant", name, token, someNumber(r, pick[int64](r, 15, 15, 7, 6, 1, 0, 16)), someMatchers(r))
	case 3:
		return spaced(r, "revoke", name, often(r, 6, "e", token))
	case 4, 10, 11:
		return spaced(r, "query", name, token, someNumber(r, clock-int64(r.Intn(90))), someNumber(r, clock+int64(r.Intn(20)-5)), someMatchers(r))
	case 5, 6:
		return spaced(r, "ask", name, token, someQuestion(r))
	case 7:
		return spaced(r, "count", name, token, someMatchers(r))
	case 8:
		return spaced(r, "names", name, token, someMatchers(r))
	case 9:
		return spaced(r, "values", name, token, often(r, 20, pick(r, "a", "b", "c"), "1", "{}", strings.Repeat("a", 65)), someMatchers(r))
	}
	return someWrite(r, clock)
}

// someOther is a line of the table's other commands, or of none.
func someOther(r *rand.Rand, clock int64) string {
	switch r.Intn(14) {
	case 0:
		return spaced(r, "raw", someRaw(r))
	case 1:
		return spaced(r, "tick", someNumber(r, pick(r, 0, 60000, clock*1000, api.MaxNow, api.MaxNow+1, -1)))
	case 2:
		return spaced(r, "fuse", someNumber(r, pick(r, r.Int63n(5), 9, 30, -1)), someNumber(r, r.Int63n(100)-5))
	case 3:
		return spaced(r, "crash", someNumber(r, r.Int63n(100)-5))
	case 4:
		return spaced(r, "state")
	case 5:
		return spaced(r, "slots", someTenant(r))
	case 6, 10, 11, 12:
		return spaced(r, "wait", often(r, 6, someRequest(r, clock), "state", "open", "go 2", "wait count t k {}", "raw 04", "", "what"))
	case 7:
		return spaced(r, "go", someNumber(r, pick[int64](r, -1, 0, 1, 2, 5, 16, 17)))
	case 8:
		return pick(r, "", " ", "what", "Make t 1 1", "make", "write t k", "raw", "wait", "open ", " state", "opens", "-", "\x00", "\xff\xfe", "count t k{}", "make\xa0t 1 1")
	}
	return spaced(r, "open")
}

func someRaw(r *rand.Rand) string {
	if r.Intn(2) == 0 {
		raw, e := wire.Encode(api.Request{Kind: api.KindCount, Tenant: "t", Token: []byte("k")})
		if e == api.OK {
			return fmt.Sprintf(pick(r, "%x", "%x", "%X"), raw)
		}
	}
	return pick(r, "04", "", "0", "040", "zz", "0 4", "040174016b00", "0g", "+1", strings.Repeat("ab", 40))
}

// mangled is a line with some byte of it taken out, doubled, or made another one.
func mangled(r *rand.Rand, line string) string {
	if line == "" {
		return line
	}
	at := r.Intn(len(line))
	return line[:at] + pick(r, "", line[at:at+1]+line[at:at+1], pick(r, " ", "0", "-", "\"", "{", "}", "\n", "\xff", "a", "F")) + line[at+1:]
}

func someLine(r *rand.Rand, clock int64) string {
	line := someRequest(r, clock)
	if r.Intn(3) == 0 {
		line = someOther(r, clock)
	}
	return often(r, 15, line, mangled(r, line))
}

// short is a text for a message.
func short(s string) string {
	if len(s) > 300 {
		s = s[:300] + ".."
	}
	return strconv.Quote(s)
}
