package wire

import (
	"bytes"
	"encoding/binary"
	"math"
	"math/rand"
	"reflect"
	"slices"
	"strings"
	"testing"

	"turnkey/api"
)

// plainAnswer lets lists of nothing be alike, whether nil or empty.
func plainAnswer(r api.Response) api.Response {
	var rows []api.Row
	for _, row := range r.Rows {
		rows = append(rows, api.Row{Labels: slices.Concat(row.Labels), N: row.N})
	}
	r.Series, r.Rows, r.Texts = plainSeries(r.Series), rows, slices.Concat(r.Texts)
	return r
}

// told fails if the response is not written as these bytes, or these are not read as the response.
func told(t *testing.T, what string, r api.Response, want []byte) {
	t.Helper()
	was := plainAnswer(r)
	b, e := Answer(r)
	if !bytes.Equal(b, want) || e != api.OK {
		t.Errorf("R2: %s: Answer: %d bytes, %x.., %d; want %d, %x..", what, len(b), b[:min(len(b), 40)], e, len(want), want[:min(len(want), 40)])
	}
	a, e := Read(want)
	if e != api.OK || !reflect.DeepEqual(plainAnswer(a), was) {
		t.Errorf("R2: %s: Read: %d; of kind %d; want kind %d", what, e, a.Kind, r.Kind)
	}
	if !reflect.DeepEqual(plainAnswer(r), was) {
		t.Errorf("P3: %s: Answer wrote into what it was given", what)
	}
}

func answersNot(t *testing.T, what string, r api.Response, want api.Errno) {
	t.Helper()
	if b, e := Answer(r); b != nil || e != want {
		t.Errorf("R2: %s: Answer: %d bytes, %d; want %d", what, len(b), e, want)
	}
}

func readsNot(t *testing.T, what string, b []byte) {
	t.Helper()
	if a, e := Read(b); e != api.ErrWire || !reflect.DeepEqual(a, api.Response{}) {
		t.Errorf("R2: %s: Read of %d bytes, %x..: %d; want ErrWire", what, len(b), b[:min(len(b), 40)], e)
	}
}

// right: the response may be, and is written by the words.
func right(t *testing.T, what string, r api.Response) {
	t.Helper()
	if !responseMayBe(r) {
		t.Errorf("%s: the words refuse it", what)
	}
	told(t, what, r, responseBytes(r))
}

// wrong: the response may not be, and neither may what its bytes would be.
func wrong(t *testing.T, what string, r api.Response) {
	t.Helper()
	answersNot(t, what, r, api.ErrWire)
	readsNot(t, what, responseBytes(r))
}

func textsOf(l ...string) api.Response {
	return api.Response{Kind: api.AnswerTexts, Texts: l}
}

func seriesOf(l ...api.Series) api.Response {
	return api.Response{Kind: api.AnswerSeries, Series: l}
}

func rowsOf(l ...api.Row) api.Response {
	return api.Response{Kind: api.AnswerRows, Rows: l}
}

func numberOf(n int) api.Response {
	return api.Response{Kind: api.AnswerNumber, Number: n}
}

func TestExamplesOfResponses(t *testing.T) {
	a := []api.Label{{Name: "a", Value: "x"}}
	for want, r := range map[string]api.Response{
		"00 00":                      {},
		"a0 01":                      {Err: api.ErrToken},
		"00 03 03":                   numberOf(3),
		"00 04 02 01 61 01 62":       textsOf("a", "b"),
		"00 04 00":                   textsOf(),
		"00 01 00":                   seriesOf(),
		"00 02 00":                   rowsOf(),
		"00 03 00":                   numberOf(0),
		"00 01 01 01 0161 0178 00":   seriesOf(api.Series{Labels: a}),
		"00 01 02 00 00 00 00":       seriesOf(api.Series{}, api.Series{}),
		"00 02 02 01 0161 0178 ac02": {Kind: api.AnswerRows, Rows: []api.Row{{Labels: a, N: 300}, {}}},
		"00 01 01 01 0161 0178 11 01 00000000000003e8 0000000000000005": seriesOf(api.Series{Labels: a, Samples: samplesOf(1)}),
	} {
		if len(r.Rows) == 2 {
			want += "00 00"
		}
		told(t, want, r, ofHex(t, want))
	}
	readsNot(t, "no bytes", nil)
	readsNot(t, "no bytes", []byte{})
}

func TestErrorsOfResponses(t *testing.T) {
	for err := 1; err <= 999; err++ {
		right(t, "an error", api.Response{Err: api.Errno(err)})
	}
	for _, err := range []api.Errno{-1, -999, 1000, 1001, 1 << 32, math.MaxInt, math.MinInt} {
		wrong(t, "no error", api.Response{Err: err})
	}
	lists := api.Response{Series: []api.Series{}, Rows: []api.Row{}, Texts: []string{}}
	lists.Err = api.ErrPool
	right(t, "empty lists", lists)
	for _, r := range []api.Response{numberOf(0), textsOf(), {Kind: -1}, {Kind: 5}, {Kind: 256}, {Number: 1}, {Number: -1}, {Texts: []string{""}}, {Rows: make([]api.Row, 1)}, {Series: make([]api.Series, 1)}} {
		for _, err := range []api.Errno{1, api.ErrWire, 999} {
			r.Err = err
			answersNot(t, "an error with something else", r, api.ErrWire)
		}
	}
	for c := range 256 {
		readsNot(t, "a byte behind an error", []byte{0xa0, 1, byte(c)})
	}
}

func TestKindsOfResponses(t *testing.T) {
	for kind := -300; kind <= 600; kind++ {
		if kind >= 0 && kind <= 4 {
			right(t, "a kind", api.Response{Kind: kind})
			continue
		}
		answersNot(t, "no kind", api.Response{Kind: kind}, api.ErrWire)
	}
	for c := 5; c < 256; c++ {
		readsNot(t, "no kind", []byte{0, byte(c)})
		readsNot(t, "no kind", []byte{0, byte(c), 0})
	}
	fields := []api.Response{{}, seriesOf(api.Series{}), rowsOf(api.Row{}), numberOf(1), textsOf("")}
	for kind := range 5 {
		for used, r := range fields {
			r.Kind = kind
			if used == kind || used == 0 {
				right(t, "what it uses", r)
				continue
			}
			answersNot(t, "what it does not use", r, api.ErrWire)
		}
		right(t, "empty lists", api.Response{Kind: kind, Series: []api.Series{}, Rows: []api.Row{}, Texts: []string{}})
	}
}

func TestNumbersOfResponses(t *testing.T) {
	for _, n := range []int{0, 1, 127, 128, 1 << 32, 1 << 40, math.MaxInt - 1, math.MaxInt} {
		right(t, "a number", numberOf(n))
	}
	for _, n := range []int{-1, -2, math.MinInt, math.MinInt + 1} {
		wrong(t, "a number", numberOf(n))
	}
	for _, n := range []uint64{0, 1, 128, math.MaxInt64, math.MaxInt64 + 1, math.MaxUint64} {
		right(t, "a row's number", rowsOf(api.Row{N: n}, api.Row{N: n ^ 1}))
	}
}

func TestLimitsOfResponses(t *testing.T) {
	fits, long := longs(64)
	for _, s := range []string{"", "\x00", fits[:63], fits} {
		l := []api.Label{{}, {Name: s}, {Value: s}}
		right(t, "texts", textsOf("", s, ""))
		right(t, "labels", seriesOf(api.Series{}, api.Series{Labels: l}))
		right(t, "labels", rowsOf(api.Row{}, api.Row{Labels: l}))
	}
	for _, s := range []string{long, strings.Repeat("x", 128), strings.Repeat("x", 2<<20)} {
		wrong(t, "texts", textsOf("", s, ""))
		for _, l := range [][]api.Label{{{Name: s}}, {{}, {Value: s}}} {
			wrong(t, "labels", seriesOf(api.Series{}, api.Series{Labels: l}))
			wrong(t, "labels", rowsOf(api.Row{}, api.Row{Labels: l}, api.Row{}))
		}
	}
	for count := range 20 {
		l := slices.Repeat([]api.Label{{Name: "a"}}, count)
		look := right
		if count > 16 {
			look = wrong
		}
		look(t, "labels", seriesOf(api.Series{}, api.Series{Labels: l, Samples: samplesOf(2)}))
		look(t, "labels", rowsOf(api.Row{Labels: l}, api.Row{}))
	}
}

// Of an answer there may be more series and samples than of a write, and a series may have none.
func TestManyInResponses(t *testing.T) {
	for _, count := range []int{0, 1, 256, 257, 5000, 100000} {
		right(t, "samples", seriesOf(api.Series{}, api.Series{Samples: samplesOf(count)}, api.Series{Samples: samplesOf(1)}))
	}
	for _, count := range []int{64, 65, 127, 128, 10000} {
		right(t, "series", seriesOf(make([]api.Series, count)...))
		right(t, "rows", rowsOf(make([]api.Row, count)...))
		right(t, "texts", textsOf(make([]string, count)...))
	}
	right(t, "as many texts as go in", textsOf(make([]string, 1<<20-5)...))
	right(t, "as many rows as go in", rowsOf(make([]api.Row, 1<<19-3)...))
}

// tooLong: with one byte more there is no room; with all else as it was.
func tooLong(t *testing.T, what string, fits, over api.Response) {
	t.Helper()
	if n, m := len(responseBytes(fits)), len(responseBytes(over)); n != 1048576 || m != n+1 {
		t.Fatalf("%s: %d and %d bytes", what, n, m)
	}
	right(t, what, fits)
	answersNot(t, what, over, api.ErrBig)
	readsNot(t, what, responseBytes(over))
}

func TestLengthOfResponses(t *testing.T) {
	fits, long := longs(64)
	texts := slices.Repeat([]string{fits}, 16132)
	room := func(left int) []string { return append(slices.Clone(texts[:16131]), fits[:left]) }
	tooLong(t, "texts", textsOf(room(56)...), textsOf(room(57)...))
	none := make([]string, 1<<20-5)
	tooLong(t, "texts of nothing", textsOf(none...), textsOf(append(none, "")...))

	row := api.Row{Labels: []api.Label{{Name: fits, Value: fits}}, N: 1}
	rows := func(last ...api.Row) api.Response {
		return rowsOf(append(slices.Repeat([]api.Row{row}, 7943), last...)...)
	}
	last := []api.Label{{Name: fits, Value: fits[:28]}}
	tooLong(t, "rows", rows(api.Row{Labels: last, N: 127}), rows(api.Row{Labels: last, N: 128}))

	series := func(head string, samples int) api.Response {
		return seriesOf(api.Series{Labels: []api.Label{{Name: head}}, Samples: samplesOf(samples)})
	}
	count := 4 * (1048576 - 60)
	left := 1048576 - len(responseBytes(series("", count)))
	if left < 1 || left > 63 {
		t.Fatalf("%d bytes are left", left)
	}
	tooLong(t, "samples", series(fits[:left], count), series(fits[:left+1], count))
	answersNot(t, "samples", series("", count+4*64), api.ErrBig)
	answersNot(t, "many more samples", series("", 8*1048576), api.ErrBig)
	for _, size := range []int{1048577, 1 << 21} {
		readsNot(t, "noughts", make([]byte, size))
		readsNot(t, "noughts behind", append([]byte{0, 4, 1, 1, 'a'}, make([]byte, size)...))
	}
	answersNot(t, "what may not be otherwise, at last", textsOf(append(slices.Repeat(texts, 2), long)...), api.ErrWire)
}

// What may not be weighs more than what is too long, wherever it stands.
func TestWrongAheadOfBig(t *testing.T) {
	fits, long := longs(64)
	full := []api.Label{{Name: fits, Value: fits}}
	texts := slices.Repeat([]string{fits}, 20000)
	rows := slices.Repeat([]api.Row{{Labels: full}}, 10000)
	series := slices.Repeat([]api.Series{{Labels: full, Samples: samplesOf(1)}}, 10000)
	great := []api.Series{{Samples: samplesOf(1 << 23)}, {Labels: full, Samples: samplesOf(1)}}
	for _, r := range []api.Response{textsOf(texts...), rowsOf(rows...), seriesOf(series...), seriesOf(great...)} {
		answersNot(t, "too long", r, api.ErrBig)
		for _, err := range []api.Errno{-1, 1, 1000} {
			with := r
			with.Err = err
			answersNot(t, "an error beside it", with, api.ErrWire)
		}
		for _, kind := range []int{-1, 0, r.Kind - 1, 3, 5, 256 + r.Kind} {
			with := r
			with.Kind = kind
			answersNot(t, "another kind", with, api.ErrWire)
		}
		with := r
		with.Number = 1
		answersNot(t, "a number beside it", with, api.ErrWire)
	}
	for _, at := range []int{0, 1, 9999} {
		answersNot(t, "a text", textsOf(changed(texts, at, long)...), api.ErrWire)
		for _, l := range [][]api.Label{{{Name: long}}, {{Value: long}}, make([]api.Label, 17)} {
			answersNot(t, "a row", rowsOf(changed(rows, at, api.Row{Labels: l})...), api.ErrWire)
			answersNot(t, "a series", seriesOf(changed(series, at, api.Series{Labels: l})...), api.ErrWire)
			answersNot(t, "a series", seriesOf(changed(great, min(at, 1), api.Series{Labels: l, Samples: great[0].Samples})...), api.ErrWire)
		}
	}
	both := textsOf(texts...)
	both.Rows = rows
	answersNot(t, "two of them", both, api.ErrWire)
}

func changed[T any](l []T, at int, item T) []T {
	out := slices.Clone(l)
	out[at] = item
	return out
}

func TestResponsesByTheWords(t *testing.T) {
	r := rand.New(rand.NewSource(5))
	for range 500 {
		for kind := range 5 {
			right(t, "some response", someResponse(r, kind))
		}
	}
}

// saysAsTheWords holds Read against the loose reading.
func saysAsTheWords(t *testing.T, b []byte) bool {
	t.Helper()
	want, ok := responseOf(b)
	if !ok {
		readsNot(t, "strange bytes", b)
		return false
	}
	a, e := Read(b)
	if e != api.OK || !reflect.DeepEqual(plainAnswer(a), plainAnswer(want)) {
		t.Errorf("R2: Read(%x): %v, %d; want %v", b, a, e, want)
	}
	if c, e := Answer(a); e != api.OK || !bytes.Equal(b, c) {
		t.Errorf("R2: Answer of Read(%x): %x, %d", b, c, e)
	}
	return true
}

func TestStrangeResponses(t *testing.T) {
	r := rand.New(rand.NewSource(6))
	taken, all := 0, 0
	for range 10 {
		for kind := range 5 {
			for _, b := range strange(smallResponse(r, kind)) {
				all++
				if saysAsTheWords(t, b) {
					taken++
				}
			}
		}
	}
	if taken < all/20 || taken > all*19/20 {
		t.Errorf("of %d strange bytes %d are a response's", all, taken)
	}
}

func smallResponse(r *rand.Rand, kind int) []byte {
	for {
		if b := responseBytes(someResponse(r, kind)); len(b) < 600 {
			return b
		}
	}
}

func TestBeginningsOfResponses(t *testing.T) {
	r := rand.New(rand.NewSource(7))
	for range 20 {
		for kind := range 5 {
			b := smallResponse(r, kind)
			for cut := range b {
				readsNot(t, "a beginning", b[:cut])
			}
			for c := range 256 {
				readsNot(t, "a byte more", append(b, byte(c)))
			}
		}
	}
}

func TestGreatCountsInResponses(t *testing.T) {
	for _, count := range []uint64{1, 2, 127, 128, 1 << 16, 1 << 20, 1 << 32, math.MaxInt64, 1 << 63, math.MaxUint64} {
		for _, head := range []string{"", "00 01", "00 01 01", "00 01 01 00", "00 01 01 00 11", "00 02", "00 02 01", "00 02 01 00", "00 03", "00 04", "00 04 01"} {
			for _, tail := range []string{"", "00", "0000", strings.Repeat("00", 1000)} {
				saysAsTheWords(t, append(binary.AppendUvarint(ofHex(t, head), count), ofHex(t, tail)...))
			}
		}
	}
}

func TestSomeBytesAsResponses(t *testing.T) {
	r := rand.New(rand.NewSource(8))
	for range 30000 {
		b := make([]byte, r.Intn(40))
		for i := range b {
			b[i] = byte(r.Intn(256))
			if r.Intn(3) > 0 {
				b[i] = byte(r.Intn(5))
			}
		}
		if len(b) > 1 && r.Intn(4) > 0 {
			b[0], b[1] = 0, byte(r.Intn(5))
		}
		saysAsTheWords(t, b)
	}
}

// What Read tells is the caller's, and so are the bytes that Answer tells.
func TestResponsesAreTheCallers(t *testing.T) {
	labels := []api.Label{{Name: "a", Value: "x"}, {Name: "b", Value: "y"}, {Name: "c", Value: "z"}}
	one := api.Series{Labels: labels, Samples: samplesOf(3)}
	row := api.Row{Labels: labels, N: 5}
	for _, r := range []api.Response{seriesOf(one, one, one), rowsOf(row, row, row), textsOf("a", "b", "c")} {
		b, _ := Answer(r)
		c, _ := Answer(r)
		a, _ := Read(b)
		clearBytes(b)
		if !reflect.DeepEqual(a, r) || !bytes.Equal(c, responseBytes(r)) {
			t.Errorf("P3: bytes that are written over are seen in %v, %x", a, c)
		}
		for i := range a.Series {
			clear(a.Series[i].Labels[:cap(a.Series[i].Labels)])
			clear(a.Series[i].Samples[:cap(a.Series[i].Samples)])
			if i < 2 && !reflect.DeepEqual(a.Series[i+1], one) {
				t.Errorf("P3: what is written into one series is seen in another: %v", a.Series[i+1])
			}
		}
		for i := range a.Rows {
			clear(a.Rows[i].Labels[:cap(a.Rows[i].Labels)])
			if i < 2 && !reflect.DeepEqual(a.Rows[i+1], row) {
				t.Errorf("P3: what is written into one row is seen in another: %v", a.Rows[i+1])
			}
		}
		if !bytes.Equal(c, responseBytes(r)) {
			t.Errorf("P3: what was answered hangs on what was read")
		}
	}
	b := responseBytes(seriesOf(one))
	was := bytes.Clone(b)
	Read(b)
	if !bytes.Equal(b, was) {
		t.Error("P3: Read writes into what it is given")
	}
}
