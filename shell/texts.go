package shell

import (
	"cmp"
	"strconv"
	"strings"

	"turnkey/api"
	"turnkey/label"
	"turnkey/wire"
)

const (
	done    = "ok"
	dead    = "dead"
	nothing = "-"
	digits  = "0123456789abcdef"
)

// ended tells what came of something that has no other answer.
func ended(e api.Errno) string {
	if e != api.OK {
		return "error " + strconv.Itoa(int(e))
	}
	return done
}

// told is the stack's answer to a request, as a text.
func told(answer []byte) string {
	if answer == nil {
		return dead
	}
	a, e := wire.Read(answer)
	if e := cmp.Or(e, a.Err); e != api.OK {
		return ended(e)
	}
	switch a.Kind {
	case api.AnswerSeries:
		return listed(a.Series, seriesText, "; ")
	case api.AnswerRows:
		return listed(a.Rows, rowText, "; ")
	case api.AnswerNumber:
		return strconv.Itoa(a.Number)
	case api.AnswerTexts:
		return listed(a.Texts, quoted, " ")
	}
	return done
}

func listed[T any](l []T, text func(T) string, between string) string {
	if len(l) == 0 {
		return nothing
	}
	var out []string
	for _, one := range l {
		out = append(out, text(one))
	}
	return strings.Join(out, between)
}

func seriesText(s api.Series) string {
	var out strings.Builder
	out.WriteString(label.Print(s.Labels))
	out.WriteString(":")
	for _, one := range s.Samples {
		out.WriteString(" ")
		out.WriteString(strconv.FormatInt(one.T, 10))
		out.WriteString("/")
		out.WriteString(bitsText(one.V))
	}
	return out.String()
}

func rowText(r api.Row) string {
	return label.Print(r.Labels) + "=>" + strconv.FormatUint(r.N, 10)
}

// quoted is a value as label.Print writes it: that of some label, and what stands about it taken away.
func quoted(value string) string {
	text := label.Print([]api.Label{{Name: "a", Value: value}})
	return strings.TrimSuffix(strings.TrimPrefix(text, "{a="), "}")
}

// bitsText is a number in sixteen digits of base sixteen.
func bitsText(v uint64) string {
	const size = 16
	text := strconv.FormatUint(v, 16)
	return strings.Repeat("0", size-len(text)) + text
}

// octetsText is bytes in two such digits each.
func octetsText(b []byte) string {
	var out strings.Builder
	for _, one := range b {
		out.WriteByte(digits[one>>4])
		out.WriteByte(digits[one&15])
	}
	return out.String()
}
