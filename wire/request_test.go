package wire

import (
	"bytes"
	"math"
	"math/rand"
	"reflect"
	"slices"
	"strings"
	"testing"

	"turnkey/api"
)

// plain lets lists of nothing be alike, whether nil or empty.
func plain(r api.Request) api.Request {
	r.Token, r.Bears = slices.Concat(r.Token), slices.Concat(r.Bears)
	r.Matchers, r.Writes = slices.Concat(r.Matchers), plainSeries(r.Writes)
	return r
}

func plainSeries(l []api.Series) []api.Series {
	var out []api.Series
	for _, s := range l {
		out = append(out, api.Series{Labels: slices.Concat(s.Labels), Samples: slices.Concat(s.Samples)})
	}
	return out
}

// goes fails if the request is not written as these bytes, or these are not read as the request.
func goes(t *testing.T, what string, r api.Request, want []byte) {
	t.Helper()
	was := plain(r)
	b, e := Encode(r)
	if !bytes.Equal(b, want) || e != api.OK {
		t.Errorf("R1: %s: Encode: %d bytes, %x.., %d; want %d, %x..", what, len(b), b[:min(len(b), 40)], e, len(want), want[:min(len(want), 40)])
	}
	q, err := Decode(want)
	if err != nil || !reflect.DeepEqual(plain(q), was) {
		t.Errorf("R1: %s: Decode: %v; want %v: %v", what, q, r, err)
	}
	if !reflect.DeepEqual(plain(r), was) {
		t.Errorf("P3: %s: Encode wrote into what it was given", what)
	}
}

func encodesNot(t *testing.T, what string, r api.Request) {
	t.Helper()
	if b, e := Encode(r); b != nil || e != api.ErrWire {
		t.Errorf("R1: %s: Encode: %d bytes, %d; want ErrWire", what, len(b), e)
	}
}

func decodesNot(t *testing.T, what string, b []byte) {
	t.Helper()
	if q, err := Decode(b); err != error(api.ErrWire) || !reflect.DeepEqual(q, api.Request{}) {
		t.Errorf("R1: %s: Decode: %v, %v; want ErrWire", what, q, err)
	}
}

// stands: the request may be, and is written by the words.
func stands(t *testing.T, what string, r api.Request) {
	t.Helper()
	if !requestMayBe(r) {
		t.Errorf("%s: the words refuse it", what)
	}
	goes(t, what, r, requestBytes(r))
}

// falls: the request may not be, and neither may what its bytes would be.
func falls(t *testing.T, what string, r api.Request) {
	t.Helper()
	encodesNot(t, what, r)
	decodesNot(t, what, requestBytes(r))
}

func of(kind int) api.Request {
	return api.Request{Kind: kind, Tenant: "t", Token: []byte("k")}
}

func writeOf(l ...api.Series) api.Request {
	r := of(api.KindWrite)
	r.Writes = l
	return r
}

// samplesOf are some, all alike.
func samplesOf(count int) []api.Sample {
	return slices.Repeat([]api.Sample{{T: 1000, V: 5}}, count)
}

func TestExamplesOfRequests(t *testing.T) {
	count := of(api.KindCount)
	count.Matchers = []api.Matcher{{Name: "a", Op: api.OpIs, Text: "x"}}
	goes(t, "count", count, ofHex(t, "04 0174 016b 01 0161 01 0178"))
	goes(t, "remove", of(api.KindRemove), ofHex(t, "07 0174 016b"))
	decodesNot(t, "one byte behind", ofHex(t, "07 0174 016b 00"))
	write := writeOf(api.Series{Labels: []api.Label{{Name: "a", Value: "x"}}, Samples: samplesOf(1)})
	goes(t, "write", write, ofHex(t, "01 0174 016b 01 01 0161 0178 11 01 00000000000003e8 0000000000000005"))
	falls(t, "a write of no series", writeOf())
	falls(t, "a series without samples", writeOf(api.Series{Labels: write.Writes[0].Labels}))
	falls(t, "257 samples", writeOf(api.Series{Samples: samplesOf(257)}))
	falls(t, "a tenant of 65 bytes", api.Request{Kind: api.KindRemove, Tenant: strings.Repeat("t", 65)})
	for _, kind := range []int{8, 0, 20} {
		falls(t, "a kind that is none", of(kind))
	}
	count.Matchers[0].Op = 0
	falls(t, "an op of 0", count)
	decodesNot(t, "no bytes", nil)
	decodesNot(t, "no bytes", []byte{})
}

// Each kind with all that it uses, the fields unlike one another.
func TestEachKindOfRequest(t *testing.T) {
	a := []api.Matcher{{Name: "a", Op: api.OpUnlike, Text: "x"}, {Name: "b", Op: api.OpNot}}
	head := api.Request{Tenant: "t", Token: []byte("k")}
	with := func(kind int, set func(r *api.Request)) api.Request {
		r := head
		r.Kind = kind
		set(&r)
		return r
	}
	for want, r := range map[string]api.Request{
		"02 0174 016b 02 0161 04 0178 0162 02 00 03 8001": with(2, func(r *api.Request) { r.Matchers, r.From, r.To = a, -2, 64 }),
		"03 0174 016b 03 000aff":                          with(3, func(r *api.Request) { r.Question = "\x00\n\xff" }),
		"04 0174 016b 02 0161 04 0178 0162 02 00":         with(4, func(r *api.Request) { r.Matchers = a }),
		"05 0174 016b 02 0161 04 0178 0162 02 00":         with(5, func(r *api.Request) { r.Matchers = a }),
		"06 0174 016b 02 0161 04 0178 0162 02 00 026e6d":  with(6, func(r *api.Request) { r.Matchers, r.Name = a, "nm" }),
		"07 0174 016b":            with(7, func(r *api.Request) {}),
		"10 0174 016b ac02 07":    with(16, func(r *api.Request) { r.Series, r.Samples = 300, 7 }),
		"11 0174 016b":            with(17, func(r *api.Request) {}),
		"12 0174 016b 0162 0f 00": with(18, func(r *api.Request) { r.Bears, r.Rights = []byte("b"), 15 }),
		"12 0174 016b 0162 8001 01 0162 02 00": with(18, func(r *api.Request) {
			r.Bears, r.Rights, r.Matchers = []byte("b"), 128, a[1:]
		}),
		"13 0174 016b 0162": with(19, func(r *api.Request) { r.Bears = []byte("b") }),
		"13 00 00 00":       {Kind: 19},
		"01 00 00 01 00 11 01 8000000000000000 ffffffffffffffff": {Kind: 1, Writes: []api.Series{{Samples: []api.Sample{{T: math.MinInt64, V: math.MaxUint64}}}}},
	} {
		goes(t, want, r, ofHex(t, want))
	}
}

func TestKindsOfRequestsThatAreNone(t *testing.T) {
	for kind := -300; kind <= 600; kind++ {
		r := of(kind)
		if kind == api.KindWrite {
			r.Writes = []api.Series{{Samples: samplesOf(1)}}
		}
		if slices.Contains(allKinds(), kind) {
			stands(t, "a kind", r)
			continue
		}
		encodesNot(t, "no kind", r)
		encodesNot(t, "no kind, and nothing else", api.Request{Kind: kind})
	}
	for _, kind := range []int{math.MinInt, math.MaxInt, 1 << 32, 1<<32 + 7, -249} {
		encodesNot(t, "no kind", of(kind))
	}
	for c := range 256 {
		b := []byte{byte(c), 1, 't', 1, 'k'}
		if c != api.KindRemove && c != api.KindDrop {
			decodesNot(t, "a kind without its fields", b)
		}
		if !slices.Contains(allKinds(), c) {
			decodesNot(t, "no kind", b[:1])
			decodesNot(t, "no kind", append(b, 0))
		}
	}
}

// setField makes one field other than zero, by something that may be there.
func setField(r *api.Request, field string) {
	switch field {
	case "Writes":
		r.Writes = []api.Series{{Samples: samplesOf(1)}}
	case "Matchers":
		r.Matchers = []api.Matcher{{Op: 1}}
	case "From":
		r.From = -1
	case "To":
		r.To = 1
	case "Question":
		r.Question = "\x00"
	case "Name":
		r.Name = "n"
	case "Series":
		r.Series = 1
	case "Samples":
		r.Samples = 1
	case "Rights":
		r.Rights = 1
	case "Bears":
		r.Bears = []byte{0}
	}
}

// What a kind does not use must be zero: a list empty or nil.
func TestFieldsThatAreNotUsed(t *testing.T) {
	for _, kind := range allKinds() {
		for _, field := range allFields() {
			r := of(kind)
			if kind == api.KindWrite {
				setField(&r, "Writes")
			}
			setField(&r, field)
			if isUsed(kind, field) {
				stands(t, field, r)
				continue
			}
			encodesNot(t, field, r)
		}
		r := of(kind)
		r.Writes, r.Matchers, r.Bears = []api.Series{}, []api.Matcher{}, []byte{}
		if kind == api.KindWrite {
			setField(&r, "Writes")
		}
		stands(t, "empty lists", r)
	}
	r := of(api.KindRemove)
	r.Writes = make([]api.Series, 1)
	encodesNot(t, "a list of zeroes", r)
	r = of(api.KindRemove)
	r.Matchers = make([]api.Matcher, 1)
	encodesNot(t, "a list of zeroes", r)
	for _, n := range []int{-1, math.MinInt, math.MaxInt} {
		r = of(api.KindCount)
		r.Series = n
		encodesNot(t, "a number", r)
	}
}

// longs are texts at both sides of a limit.
func longs(most int) (string, string) {
	return strings.Repeat("\xff", most), strings.Repeat("\xff", most+1)
}

func TestLimitsOfTexts(t *testing.T) {
	fits, long := longs(64)
	question, longQuestion := longs(4096)
	for _, one := range []struct {
		what string
		kind int
		set  func(r *api.Request, s string)
	}{
		{"Tenant", 7, func(r *api.Request, s string) { r.Tenant = s }},
		{"Token", 17, func(r *api.Request, s string) { r.Token = []byte(s) }},
		{"Bears of a grant", 18, func(r *api.Request, s string) { r.Bears = []byte(s) }},
		{"Bears of a revocation", 19, func(r *api.Request, s string) { r.Bears = []byte(s) }},
		{"Name", 6, func(r *api.Request, s string) { r.Name = s }},
		{"a matcher's name", 4, func(r *api.Request, s string) { r.Matchers = []api.Matcher{{Name: s, Op: 1}} }},
		{"a matcher's text", 2, func(r *api.Request, s string) { r.Matchers = []api.Matcher{{}, {Op: 4, Text: s}}[1:] }},
		{"a label's name", 1, func(r *api.Request, s string) {
			r.Writes = []api.Series{{Labels: []api.Label{{Name: s}}, Samples: samplesOf(1)}}
		}},
		{"a label's value", 1, func(r *api.Request, s string) {
			r.Writes = []api.Series{{Samples: samplesOf(1)}, {Labels: []api.Label{{Value: s}}, Samples: samplesOf(1)}}
		}},
	} {
		for _, s := range []string{"", "\x00", fits[:63], fits} {
			r := of(one.kind)
			one.set(&r, s)
			stands(t, one.what, r)
		}
		for _, s := range []string{long, question, strings.Repeat("x", 70000)} {
			r := of(one.kind)
			one.set(&r, s)
			falls(t, one.what, r)
		}
	}
	for _, s := range []string{"", fits, long, question[:4095], question} {
		r := of(api.KindAsk)
		r.Question = s
		stands(t, "Question", r)
	}
	for _, s := range []string{longQuestion, strings.Repeat("x", 65530), strings.Repeat("x", 1<<20)} {
		r := of(api.KindAsk)
		r.Question = s
		falls(t, "Question", r)
	}
}

func TestLimitsOfNumbers(t *testing.T) {
	for _, field := range []string{"Series", "Samples", "Rights"} {
		kind := api.KindMake
		if field == "Rights" {
			kind = api.KindGrant
		}
		with := func(n int) api.Request {
			r := of(kind)
			switch field {
			case "Series":
				r.Series = n
			case "Samples":
				r.Samples = n
			case "Rights":
				r.Rights = n
			}
			return r
		}
		for _, n := range []int{0, 1, 15, 16, 127, 128, 1000000, 1000001, 1<<32 + 1, 1<<40 - 2, 1<<40 - 1} {
			stands(t, field, with(n))
		}
		for _, n := range []int{1 << 40, 1<<40 + 1, math.MaxInt, -1, -2, math.MinInt, math.MinInt + 1, -1 << 40} {
			falls(t, field, with(n))
		}
	}
}

func TestTimesOfAQuery(t *testing.T) {
	ends := []int64{0, 1, -1, 63, -64, 64, -65, math.MaxInt64, math.MinInt64, math.MaxInt32, 1 << 50}
	for _, from := range ends {
		for _, to := range ends {
			r := of(api.KindQuery)
			r.From, r.To = from, to
			stands(t, "From, To", r)
		}
	}
}

func TestLimitsOfMatchers(t *testing.T) {
	for _, kind := range []int{2, 4, 5, 6, 18} {
		for count := range 12 {
			r := of(kind)
			r.Matchers = slices.Repeat([]api.Matcher{{Name: "a", Op: 1, Text: "x"}}, count)
			if count <= 8 {
				stands(t, "matchers", r)
				continue
			}
			falls(t, "matchers", r)
		}
		for op := -2; op <= 300; op++ {
			r := of(kind)
			r.Matchers = []api.Matcher{{Name: "a", Op: 4}, {Name: "a", Op: op}}
			if op >= 1 && op <= 4 {
				stands(t, "an op", r)
				continue
			}
			encodesNot(t, "an op", r)
			if op <= 255 {
				decodesNot(t, "an op", requestBytes(r))
			}
		}
		for _, op := range []int{math.MinInt, math.MaxInt, 257, 1<<32 + 1} {
			r := of(kind)
			r.Matchers = []api.Matcher{{Op: op}}
			encodesNot(t, "an op", r)
		}
	}
}

func TestLimitsOfWrites(t *testing.T) {
	one := api.Series{Samples: samplesOf(1)}
	for _, count := range []int{1, 2, 63, 64} {
		stands(t, "series", writeOf(slices.Repeat([]api.Series{one}, count)...))
	}
	for _, count := range []int{0, 65, 66, 128, 300} {
		falls(t, "series", writeOf(slices.Repeat([]api.Series{one}, count)...))
	}
	for count := range 20 {
		s := api.Series{Labels: make([]api.Label, count), Samples: samplesOf(2)}
		if count <= 16 {
			stands(t, "labels", writeOf(one, s, one))
			continue
		}
		falls(t, "labels", writeOf(one, s, one))
	}
	for _, counts := range [][]int{{1}, {255}, {256}, {255, 1}, {1, 255}, {128, 128}, {100, 100, 56}} {
		stands(t, "samples", writeOf(ofCounts(counts)...))
	}
	for _, counts := range [][]int{{0}, {257}, {256, 1}, {1, 256}, {128, 129}, {100, 100, 57}, {1, 0}, {0, 1}, {1, 0, 1}, {5000}, {256, 0}} {
		falls(t, "samples", writeOf(ofCounts(counts)...))
	}
	four := ofCounts(slices.Repeat([]int{4}, 64))
	stands(t, "as many of all as may be", writeOf(four...))
	four[63].Samples = samplesOf(5)
	falls(t, "a sample more", writeOf(four...))
}

func ofCounts(counts []int) []api.Series {
	var out []api.Series
	for _, n := range counts {
		out = append(out, api.Series{Samples: samplesOf(n)})
	}
	return out
}

// Whether labels, names, matchers may be is not asked here; nor do times rise.
func TestFormsAlone(t *testing.T) {
	same := api.Label{Name: "b", Value: "\xff"}
	stands(t, "labels", writeOf(api.Series{
		Labels:  []api.Label{same, {Name: "a"}, same, {}, {Name: "9!"}},
		Samples: []api.Sample{{T: 5, V: 1}, {T: 5, V: 1}, {T: -5, V: 2}, {T: math.MaxInt64}, {T: math.MinInt64}},
	}, api.Series{Labels: []api.Label{same}, Samples: samplesOf(1)}))
	r := of(api.KindQuery)
	r.Tenant, r.From, r.To = "T!\x00", 9, -9
	r.Matchers = []api.Matcher{{Name: "", Op: 3, Text: "a**("}, {Name: "", Op: 3, Text: "a**("}}
	stands(t, "a query", r)
	r = of(api.KindMake)
	stands(t, "limits of 0", r)
	r = of(api.KindAsk)
	r.Question = "sum {"
	stands(t, "no question", r)
}

// fullWrite has so many bytes.
func fullWrite(t *testing.T, size int) api.Request {
	t.Helper()
	fits, _ := longs(64)
	r := writeOf()
	for len(requestBytes(r)) < size {
		r.Writes = append(r.Writes, api.Series{Labels: slices.Repeat([]api.Label{{Name: fits, Value: fits}}, 16), Samples: samplesOf(1)})
	}
	over := len(requestBytes(r)) - size
	last := r.Writes[len(r.Writes)-1].Labels
	last = last[:16-over/130]
	if len(last) < 2 {
		t.Fatalf("no write of %d bytes", size)
	}
	over %= 130
	last[0].Name = fits[min(over, 64):]
	last[0].Value = fits[over-min(over, 64):]
	r.Writes[len(r.Writes)-1].Labels = last
	return r
}

func TestLengthOfRequests(t *testing.T) {
	for _, size := range []int{65535, 65536} {
		r := fullWrite(t, size)
		if n := len(requestBytes(r)); n != size {
			t.Fatalf("%d bytes; want %d", n, size)
		}
		stands(t, "a long write", r)
	}
	for _, size := range []int{65537, 65538, 66000, 80000} {
		r := fullWrite(t, size)
		if n := len(requestBytes(r)); n != size || !areWritten(r.Writes) {
			t.Fatalf("%d bytes; want %d", n, size)
		}
		falls(t, "a write that is too long", r)
	}
	fits, _ := longs(64)
	longest := api.Series{Labels: slices.Repeat([]api.Label{{Name: fits, Value: fits}}, 16), Samples: samplesOf(4)}
	falls(t, "as much of all as may be", writeOf(slices.Repeat([]api.Series{longest}, 64)...))
	b := requestBytes(of(api.KindRemove))
	for _, size := range []int{65536, 65537, 1 << 20} {
		decodesNot(t, "noughts behind", append(b, make([]byte, size-len(b))...))
		decodesNot(t, "noughts", make([]byte, size))
		decodesNot(t, "sevens", bytes.Repeat([]byte{7}, size))
	}
}

func TestRequestsByTheWords(t *testing.T) {
	r := rand.New(rand.NewSource(1))
	for range 300 {
		for _, kind := range allKinds() {
			stands(t, "some request", someRequest(r, kind))
		}
	}
}

// readsAsTheWords holds Decode against the loose reading.
func readsAsTheWords(t *testing.T, b []byte) bool {
	t.Helper()
	want, ok := requestOf(b)
	if !ok {
		decodesNot(t, "strange bytes", b)
		return false
	}
	q, err := Decode(b)
	if err != nil || !reflect.DeepEqual(plain(q), plain(want)) {
		t.Errorf("R1: Decode(%x): %v, %v; want %v", b, q, err, want)
	}
	if c, e := Encode(q); e != api.OK || !bytes.Equal(b, c) {
		t.Errorf("R1: Encode of Decode(%x): %x, %d", b, c, e)
	}
	return true
}

func TestStrangeRequests(t *testing.T) {
	r := rand.New(rand.NewSource(2))
	taken, all := 0, 0
	for range 8 {
		for _, kind := range allKinds() {
			for _, b := range strange(smallRequest(r, kind)) {
				all++
				if readsAsTheWords(t, b) {
					taken++
				}
			}
		}
	}
	if taken < all/20 || taken > all*19/20 {
		t.Errorf("of %d strange bytes %d are a request's", all, taken)
	}
}

// smallRequest is the bytes of one that has not many.
func smallRequest(r *rand.Rand, kind int) []byte {
	for {
		if b := requestBytes(someRequest(r, kind)); len(b) < 600 {
			return b
		}
	}
}

// No request's bytes are the beginning of another one's.
func TestBeginningsOfRequests(t *testing.T) {
	r := rand.New(rand.NewSource(3))
	for range 10 {
		for _, kind := range allKinds() {
			b := smallRequest(r, kind)
			for cut := range b {
				decodesNot(t, "a beginning", b[:cut])
			}
			for c := range 256 {
				decodesNot(t, "a byte more", append(b, byte(c)))
			}
			decodesNot(t, "twice", append(b, b...))
		}
	}
}

// Counts that the bytes could never tell: they end, and are refused.
func TestGreatCountsInRequests(t *testing.T) {
	for _, count := range []string{"ffffffffffffffffff01", "ffffffffffffffff7f", "8080808010", "808004", "ffffffffffffffffff02", "80808080808080808001"} {
		for _, head := range []string{"01 00 00", "01 00 00 01", "01 00 00 01 00", "01 00 00 01 00 11", "02 00 00", "03 00 00", "04 00 00", "05 00", "06", "06 00 00 00", "07", "07 00", "10 00 00 00", "12 00 00", "12 00 00 00", "12 00 00 00 00", "13 00 00"} {
			for _, tail := range []string{"", "00", "01 8000000000000000 ffffffffffffffff", strings.Repeat("00", 1000)} {
				b := ofHex(t, head+count+tail)
				readsAsTheWords(t, b)
			}
		}
	}
}

func TestSomeBytesAsRequests(t *testing.T) {
	r := rand.New(rand.NewSource(4))
	for range 30000 {
		b := make([]byte, r.Intn(40))
		for i := range b {
			b[i] = byte(r.Intn(256))
			if r.Intn(3) > 0 {
				b[i] = byte(r.Intn(5))
			}
		}
		if len(b) > 0 && r.Intn(4) > 0 {
			b[0] = byte(allKinds()[r.Intn(11)])
		}
		readsAsTheWords(t, b)
	}
}

func TestEncodeWritesIntoNothing(t *testing.T) {
	r := writeOf(make([]api.Series, 2, 4)...)
	for i := range r.Writes {
		r.Writes[i] = api.Series{Labels: make([]api.Label, 1, 3), Samples: make([]api.Sample, 1, 3)}
	}
	r.Token = append(make([]byte, 0, 200), "key"...)
	behind := r.Token[:200]
	want, _ := Encode(r)
	for range 2 {
		b, e := Encode(r)
		if e != api.OK || !bytes.Equal(b, want) {
			t.Fatalf("P4: %x, %d; want %x", b, e, want)
		}
		clearBytes(b)
	}
	if string(behind) != "key"+strings.Repeat("\x00", 197) || r.Writes[:3][2].Labels != nil {
		t.Error("P3: Encode writes behind what it is given")
	}
}

// clearBytes writes over a list and its spare room, as its owner may.
func clearBytes(b []byte) {
	b = b[:cap(b)]
	for i := range b {
		b[i] ^= 0xff
	}
}

// What Decode tells is the caller's, also its spare room, and no two of its lists share any.
func TestDecodedIsTheCallers(t *testing.T) {
	r := of(api.KindGrant)
	r.Token, r.Bears, r.Rights = []byte("token"), []byte("bears"), 3
	r.Matchers = []api.Matcher{{Name: "a", Op: 1, Text: "x"}, {Name: "b", Op: 2, Text: "y"}}
	b := append(make([]byte, 0, 500), requestBytes(r)...)
	was := bytes.Clone(b[:500])
	q, _ := Decode(b)
	other, _ := Decode(b)
	clearBytes(q.Token)
	if string(q.Bears) != "bears" || !reflect.DeepEqual(q.Matchers, r.Matchers) || q.Tenant != "t" {
		t.Errorf("P3: a token that is written over is seen in %v", q)
	}
	q.Token = append(q.Token, "more than was there, and more, and more"...)
	if string(q.Bears) != "bears" {
		t.Errorf("P3: what is put behind a token is seen in %q", q.Bears)
	}
	clearBytes(q.Bears)
	clear(q.Matchers[:cap(q.Matchers)])
	if !bytes.Equal(b[:500], was) {
		t.Error("P3: what is read is the bytes that were handed in")
	}
	clearBytes(b)
	if !reflect.DeepEqual(plain(other), plain(r)) {
		t.Errorf("P3: bytes that are written over are seen in %v", other)
	}
}

func TestDecodedListsAreApart(t *testing.T) {
	labels := []api.Label{{Name: "a", Value: "x"}, {Name: "b", Value: "y"}, {Name: "c", Value: "z"}}
	one := api.Series{Labels: labels, Samples: samplesOf(3)}
	r := writeOf(one, one, one)
	q, err := Decode(requestBytes(r))
	if err != nil {
		t.Fatal(err)
	}
	for i := range q.Writes {
		clear(q.Writes[i].Labels[:cap(q.Writes[i].Labels)])
		clear(q.Writes[i].Samples[:cap(q.Writes[i].Samples)])
		for j := range q.Writes {
			if j > i && !reflect.DeepEqual(q.Writes[j], one) {
				t.Errorf("P3: what is written into series %d is seen in %d: %v", i, j, q.Writes[j])
			}
		}
	}
}

// Pieces that are read have no spare room.
func TestPiecesEndWhereTheyEnd(t *testing.T) {
	r := of(api.KindGrant)
	r.Bears = []byte("b")
	q, _ := Decode(append(make([]byte, 0, 300), requestBytes(r)...))
	if cap(q.Token) != len(q.Token) || cap(q.Bears) != len(q.Bears) {
		t.Errorf("P3: a token has room for %d, another for %d", cap(q.Token), cap(q.Bears))
	}
}
