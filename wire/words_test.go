package wire

import (
	"encoding/binary"
	"encoding/hex"
	"math"
	"math/rand"
	"slices"
	"strings"
	"testing"

	"turnkey/api"
	"turnkey/chunk"
)

// This file says chapter 18 once more, apart from how the program does it: what may be, the bytes of each thing, and a
// loose reading, in which b is the bytes of what it tells if, and only if, that may be and has just these bytes.

func ofHex(t *testing.T, s string) []byte {
	t.Helper()
	b, err := hex.DecodeString(strings.ReplaceAll(s, " ", ""))
	if err != nil {
		t.Fatal(err)
	}
	return b
}

func allKinds() []int {
	return []int{1, 2, 3, 4, 5, 6, 7, 16, 17, 18, 19}
}

func allFields() []string {
	return []string{"Writes", "Matchers", "From", "To", "Question", "Name", "Series", "Samples", "Rights", "Bears"}
}

// usedBy is the first table of the chapter.
func usedBy(kind int) string {
	return map[int]string{
		1: "Writes", 2: "Matchers From To", 3: "Question", 4: "Matchers", 5: "Matchers", 6: "Matchers Name",
		16: "Series Samples", 18: "Bears Rights Matchers", 19: "Bears",
	}[kind]
}

func isUsed(kind int, field string) bool {
	return slices.Contains(strings.Fields(usedBy(kind)), field)
}

func isZeroField(r api.Request, field string) bool {
	return map[string]bool{
		"Writes": len(r.Writes) == 0, "Matchers": len(r.Matchers) == 0, "From": r.From == 0, "To": r.To == 0, "Question": r.Question == "",
		"Name": r.Name == "", "Series": r.Series == 0, "Samples": r.Samples == 0, "Rights": r.Rights == 0, "Bears": len(r.Bears) == 0,
	}[field]
}

func isAmount(n int) bool { return n >= 0 && n <= 1099511627775 }

func areLabels(l []api.Label) bool {
	for _, one := range l {
		if len(one.Name) > 64 || len(one.Value) > 64 {
			return false
		}
	}
	return len(l) <= 16
}

func areMatchers(l []api.Matcher) bool {
	for _, m := range l {
		if len(m.Name) > 64 || len(m.Text) > 64 || m.Op < 1 || m.Op > 4 {
			return false
		}
	}
	return len(l) <= 8
}

func areWritten(l []api.Series) bool {
	all := 0
	for _, s := range l {
		all += len(s.Samples)
		if len(s.Samples) == 0 || !areLabels(s.Labels) {
			return false
		}
	}
	return len(l) > 0 && len(l) <= 64 && all <= 256
}

// requestMayBe: also of its length.
func requestMayBe(r api.Request) bool {
	for _, field := range allFields() {
		if !isUsed(r.Kind, field) && !isZeroField(r, field) {
			return false
		}
	}
	ok := slices.Contains(allKinds(), r.Kind) && len(r.Tenant) <= 64 && len(r.Token) <= 64 && len(r.Bears) <= 64 && len(r.Name) <= 64 && len(r.Question) <= 4096
	ok = ok && isAmount(r.Series) && isAmount(r.Samples) && isAmount(r.Rights) && areMatchers(r.Matchers)
	return ok && (r.Kind != 1 || areWritten(r.Writes)) && len(requestBytes(r)) <= 65536
}

func putText[T string | []byte](b []byte, s T) []byte {
	return append(binary.AppendUvarint(b, uint64(len(s))), s...)
}

func putLabels(b []byte, l []api.Label) []byte {
	b = binary.AppendUvarint(b, uint64(len(l)))
	for _, one := range l {
		b = putText(putText(b, one.Name), one.Value)
	}
	return b
}

func putMatchers(b []byte, l []api.Matcher) []byte {
	b = binary.AppendUvarint(b, uint64(len(l)))
	for _, m := range l {
		b = putText(append(putText(b, m.Name), byte(m.Op)), m.Text)
	}
	return b
}

func chunkBytes(l []api.Sample) []byte {
	c := chunk.New(math.MaxInt)
	for _, s := range l {
		c.Append(s.T, s.V)
	}
	return c.Bytes()
}

func putSeries(b []byte, l []api.Series) []byte {
	b = binary.AppendUvarint(b, uint64(len(l)))
	for _, s := range l {
		b = putText(putLabels(b, s.Labels), chunkBytes(s.Samples))
	}
	return b
}

// requestBytes: of a request that may be or not.
func requestBytes(r api.Request) []byte {
	b := putText(putText([]byte{byte(r.Kind)}, r.Tenant), r.Token)
	for _, field := range strings.Fields(usedBy(r.Kind)) {
		switch field {
		case "Writes":
			b = putSeries(b, r.Writes)
		case "Matchers":
			b = putMatchers(b, r.Matchers)
		case "From":
			b = binary.AppendVarint(b, r.From)
		case "To":
			b = binary.AppendVarint(b, r.To)
		case "Question":
			b = putText(b, r.Question)
		case "Name":
			b = putText(b, r.Name)
		case "Series":
			b = binary.AppendUvarint(b, uint64(r.Series))
		case "Samples":
			b = binary.AppendUvarint(b, uint64(r.Samples))
		case "Rights":
			b = binary.AppendUvarint(b, uint64(r.Rights))
		case "Bears":
			b = putText(b, r.Bears)
		}
	}
	return b
}

// loose reads without asking for limits or for the one form of a number.
type loose struct {
	b   []byte
	bad bool
}

func (l *loose) fail() {
	l.b, l.bad = nil, true
}

func (l *loose) uint() uint64 {
	n, size := binary.Uvarint(l.b)
	if size <= 0 {
		l.fail()
		return 0
	}
	l.b = l.b[size:]
	return n
}

func (l *loose) int() int64 {
	n, size := binary.Varint(l.b)
	if size <= 0 {
		l.fail()
		return 0
	}
	l.b = l.b[size:]
	return n
}

func (l *loose) byte() int {
	if len(l.b) == 0 {
		l.fail()
		return 0
	}
	c := l.b[0]
	l.b = l.b[1:]
	return int(c)
}

func (l *loose) text() string {
	n := l.uint()
	if n > uint64(len(l.b)) {
		l.fail()
		return ""
	}
	s := string(l.b[:n])
	l.b = l.b[n:]
	return s
}

func (l *loose) labels() []api.Label {
	var out []api.Label
	for n := l.uint(); n > 0 && !l.bad; n-- {
		name := l.text()
		out = append(out, api.Label{Name: name, Value: l.text()})
	}
	return out
}

func (l *loose) matchers() []api.Matcher {
	var out []api.Matcher
	for n := l.uint(); n > 0 && !l.bad; n-- {
		name := l.text()
		op := l.byte()
		out = append(out, api.Matcher{Name: name, Op: op, Text: l.text()})
	}
	return out
}

func (l *loose) series() []api.Series {
	var out []api.Series
	for n := l.uint(); n > 0 && !l.bad; n-- {
		labels := l.labels()
		samples, e := chunk.Read([]byte(l.text()))
		if e != api.OK {
			l.fail()
		}
		out = append(out, api.Series{Labels: labels, Samples: samples})
	}
	return out
}

func (l *loose) field(r *api.Request, field string) {
	switch field {
	case "Writes":
		r.Writes = l.series()
	case "Matchers":
		r.Matchers = l.matchers()
	case "From":
		r.From = l.int()
	case "To":
		r.To = l.int()
	case "Question":
		r.Question = l.text()
	case "Name":
		r.Name = l.text()
	case "Series":
		r.Series = int(l.uint())
	case "Samples":
		r.Samples = int(l.uint())
	case "Rights":
		r.Rights = int(l.uint())
	case "Bears":
		r.Bears = []byte(l.text())
	}
}

// requestOf is the request whose bytes b is; false: there is none.
func requestOf(b []byte) (api.Request, bool) {
	l := &loose{b: b}
	r := api.Request{Kind: l.byte()}
	r.Tenant = l.text()
	r.Token = []byte(l.text())
	for _, field := range strings.Fields(usedBy(r.Kind)) {
		l.field(&r, field)
	}
	if l.bad || !requestMayBe(r) || string(requestBytes(r)) != string(b) {
		return api.Request{}, false
	}
	return r, true
}

// responseMayBe: but for its length.
func responseMayBe(r api.Response) bool {
	none := len(r.Series) == 0
	if r.Err != 0 {
		return r.Err > 0 && r.Err <= 999 && r.Kind == 0 && none && len(r.Rows) == 0 && r.Number == 0 && len(r.Texts) == 0
	}
	for _, s := range r.Series {
		if !areLabels(s.Labels) {
			return false
		}
	}
	for _, row := range r.Rows {
		if !areLabels(row.Labels) {
			return false
		}
	}
	for _, s := range r.Texts {
		if len(s) > 64 {
			return false
		}
	}
	ok := r.Kind >= 0 && r.Kind <= 4 && r.Number >= 0
	return ok && (r.Kind == 1 || none) && (r.Kind == 2 || len(r.Rows) == 0) && (r.Kind == 3 || r.Number == 0) && (r.Kind == 4 || len(r.Texts) == 0)
}

func responseBytes(r api.Response) []byte {
	b := binary.AppendUvarint(nil, uint64(r.Err))
	if r.Err != 0 {
		return b
	}
	b = append(b, byte(r.Kind))
	switch r.Kind {
	case 1:
		b = putSeries(b, r.Series)
	case 2:
		b = binary.AppendUvarint(b, uint64(len(r.Rows)))
		for _, row := range r.Rows {
			b = binary.AppendUvarint(putLabels(b, row.Labels), row.N)
		}
	case 3:
		b = binary.AppendUvarint(b, uint64(r.Number))
	case 4:
		b = binary.AppendUvarint(b, uint64(len(r.Texts)))
		for _, s := range r.Texts {
			b = putText(b, s)
		}
	}
	return b
}

// responseOf is the response whose bytes b is; false: there is none.
func responseOf(b []byte) (api.Response, bool) {
	l := &loose{b: b}
	r := api.Response{Err: api.Errno(l.uint())}
	if r.Err == 0 {
		r.Kind = l.byte()
	}
	switch r.Kind {
	case 1:
		r.Series = l.series()
	case 2:
		for n := l.uint(); n > 0 && !l.bad; n-- {
			labels := l.labels()
			r.Rows = append(r.Rows, api.Row{Labels: labels, N: l.uint()})
		}
	case 3:
		r.Number = int(l.uint())
	case 4:
		for n := l.uint(); n > 0 && !l.bad; n-- {
			r.Texts = append(r.Texts, l.text())
		}
	}
	if l.bad || !responseMayBe(r) || len(b) > 1048576 || string(responseBytes(r)) != string(b) {
		return api.Response{}, false
	}
	return r, true
}

func someText(r *rand.Rand, most int) string {
	size := []int{0, 1, 2, r.Intn(most + 1), most}[r.Intn(5)]
	b := make([]byte, size)
	r.Read(b)
	return string(b)
}

func someLabels(r *rand.Rand) []api.Label {
	var out []api.Label
	for range []int{0, 1, 2, r.Intn(17)}[r.Intn(4)] {
		out = append(out, api.Label{Name: someText(r, 64), Value: someText(r, 64)})
	}
	return out
}

func someMatchers(r *rand.Rand) []api.Matcher {
	var out []api.Matcher
	for range []int{0, 1, r.Intn(9)}[r.Intn(3)] {
		out = append(out, api.Matcher{Name: someText(r, 64), Op: 1 + r.Intn(4), Text: someText(r, 64)})
	}
	return out
}

func someSamples(r *rand.Rand, count int) []api.Sample {
	var out []api.Sample
	t, v := int64(r.Uint64()), r.Uint64()
	for range count {
		out = append(out, api.Sample{T: t, V: v})
		t += []int64{0, 1, 60, -7, int64(r.Uint64())}[r.Intn(5)]
		v ^= []uint64{0, 0, 1, 1 << 63, r.Uint64()}[r.Intn(5)]
	}
	return out
}

// someSeries have, of least 1, at least one sample each.
func someSeries(r *rand.Rand, count, least int) []api.Series {
	var out []api.Series
	for range count {
		out = append(out, api.Series{Labels: someLabels(r), Samples: someSamples(r, least+r.Intn(4))})
	}
	return out
}

func someInt(r *rand.Rand) int64 {
	return []int64{0, 1, -1, math.MaxInt64, math.MinInt64, int64(r.Uint64()) >> r.Intn(64)}[r.Intn(6)]
}

func someAmount(r *rand.Rand) int {
	return []int{0, 1, 15, 1<<40 - 1, r.Intn(1 << 40)}[r.Intn(5)]
}

// someRequest may be, but now and then for its length.
func someRequest(r *rand.Rand, kind int) api.Request {
	out := api.Request{Kind: kind, Tenant: someText(r, 64), Token: []byte(someText(r, 64))}
	for _, field := range strings.Fields(usedBy(kind)) {
		switch field {
		case "Writes":
			out.Writes = someSeries(r, 1+r.Intn(5), 1)
		case "Matchers":
			out.Matchers = someMatchers(r)
		case "From":
			out.From = someInt(r)
		case "To":
			out.To = someInt(r)
		case "Question":
			out.Question = someText(r, 4096)
		case "Name":
			out.Name = someText(r, 64)
		case "Series":
			out.Series = someAmount(r)
		case "Samples":
			out.Samples = someAmount(r)
		case "Rights":
			out.Rights = someAmount(r)
		case "Bears":
			out.Bears = []byte(someText(r, 64))
		}
	}
	return out
}

func someResponse(r *rand.Rand, kind int) api.Response {
	out := api.Response{Kind: kind}
	switch kind {
	case 1:
		out.Series = someSeries(r, r.Intn(5), 0)
	case 2:
		for range r.Intn(5) {
			out.Rows = append(out.Rows, api.Row{Labels: someLabels(r), N: r.Uint64() >> r.Intn(64)})
		}
	case 3:
		out.Number = []int{0, 1, 127, 128, math.MaxInt, r.Int() >> r.Intn(63)}[r.Intn(6)]
	case 4:
		for range r.Intn(5) {
			out.Texts = append(out.Texts, someText(r, 64))
		}
	}
	return out
}

// strange is what comes of right bytes when one place of them is made another: left out, doubled, given some other
// value, a number in more bytes than it needs; or when all behind it is cut off.
func strange(b []byte) [][]byte {
	var out [][]byte
	for i, c := range b {
		ahead, behind := b[:i], b[i+1:]
		for _, middle := range [][]byte{nil, {c, c}, {0, c}, {c ^ 1}, {c ^ 0x80}, {c + 1}, {c - 1}, {0}, {0xff}, {c | 0x80, 0}, {c | 0x80, 1}} {
			out = append(out, slices.Concat(ahead, middle, behind))
		}
		out = append(out, slices.Clone(ahead))
	}
	for _, more := range [][]byte{{0}, {1}, {0x80}, {0xff}, b} {
		out = append(out, slices.Concat(b, more))
	}
	return out
}
