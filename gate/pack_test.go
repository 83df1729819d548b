package gate

import (
	"bytes"
	"encoding/binary"
	"math"
	"math/rand"
	"reflect"
	"slices"
	"strings"
	"testing"

	"turnkey/api"
	"turnkey/match"
)

// reduced is what a change uses; lists of nothing are nil.
func reduced(c api.Change) api.Change {
	out := api.Change{Kind: c.Kind, Tenant: c.Tenant}
	switch c.Kind {
	case api.ChangeMake:
		out.Series, out.Samples = c.Series, c.Samples
	case api.ChangeGrant:
		out.Grant = c.Grant
		out.Grant.Policy = slices.Concat(c.Grant.Policy)
	case api.ChangeRevoke:
		out.Digest = c.Digest
	case api.ChangeWrite:
		out.Window = c.Window
		for _, s := range c.Writes {
			out.Writes = append(out.Writes, api.Series{Labels: slices.Concat(s.Labels), Samples: slices.Concat(s.Samples)})
		}
	}
	return out
}

// mayBePacked is T4's refusals.
func mayBePacked(c api.Change) bool {
	if c.Kind < 1 || c.Kind > 5 || len(c.Tenant) > 64 {
		return false
	}
	_, e := match.New(c.Grant.Policy)
	switch c.Kind {
	case api.ChangeMake:
		return c.Series >= 0 && c.Samples >= 0
	case api.ChangeGrant:
		return c.Grant.Rights >= 0 && e == api.OK
	case api.ChangeWrite:
		return c.Window >= 0
	}
	return true
}

// loose reads bytes with little care; once there is not what it wants, it stops for good.
type loose struct {
	b   []byte
	bad bool
}

func (r *loose) uint() uint64 {
	n, size := binary.Uvarint(r.b)
	if size <= 0 {
		r.b, r.bad = nil, true
		return 0
	}
	r.b = r.b[size:]
	return n
}

func (r *loose) int() int64 {
	n, size := binary.Varint(r.b)
	if size <= 0 {
		r.b, r.bad = nil, true
		return 0
	}
	r.b = r.b[size:]
	return n
}

func (r *loose) bytes(n uint64) []byte {
	if n > uint64(len(r.b)) {
		r.b, r.bad = nil, true
		return nil
	}
	out := r.b[:n]
	r.b = r.b[n:]
	return out
}

func (r *loose) text() string {
	return string(r.bytes(r.uint()))
}

func (r *loose) writes() []api.Series {
	var out []api.Series
	for n := r.uint(); n > 0 && !r.bad; n-- {
		var s api.Series
		for k := r.uint(); k > 0 && !r.bad; k-- {
			s.Labels = append(s.Labels, api.Label{Name: r.text()})
			s.Labels[len(s.Labels)-1].Value = r.text()
		}
		for k := r.uint(); k > 0 && !r.bad; k-- {
			s.Samples = append(s.Samples, api.Sample{T: r.int()})
			s.Samples[len(s.Samples)-1].V = r.uint()
		}
		out = append(out, s)
	}
	return out
}

// unpacked reads loosely, and takes what is written as the same bytes alone.
func unpacked(b []byte) (api.Change, bool) {
	r := &loose{b: b}
	var c api.Change
	if kind := r.bytes(1); kind != nil {
		c.Kind = int(kind[0])
	}
	c.Tenant = r.text()
	switch c.Kind {
	case api.ChangeMake:
		c.Series = int(r.uint())
		c.Samples = int(r.uint())
	case api.ChangeGrant:
		copy(c.Grant.Digest[:], r.bytes(32))
		c.Grant.Rights = int(r.uint())
		policy, err := match.Parse(r.text())
		c.Grant.Policy = policy
		r.bad = r.bad || err != nil
	case api.ChangeRevoke:
		copy(c.Digest[:], r.bytes(32))
	case api.ChangeWrite:
		c.Window = int64(r.uint())
		c.Writes = r.writes()
	}
	if r.bad || !mayBePacked(c) || !bytes.Equal(changeBytes(c), b) {
		return api.Change{}, false
	}
	return reduced(c), true
}

// packs fails unless Pack and Unpack do what the words say of c.
func packs(t *testing.T, c api.Change) {
	t.Helper()
	b, e := Pack(c)
	if !mayBePacked(c) {
		if b != nil || e != api.ErrArg {
			t.Errorf("T4: Pack of %v: %x, %d; want ErrArg", c, b, e)
		}
		return
	}
	if want := changeBytes(c); !bytes.Equal(b, want) || e != api.OK {
		t.Errorf("T4: Pack of %v: %x, %d; want %x", c, b, e, want)
	}
	unpacks(t, b)
	if d, e := Unpack(b); e != api.OK || !reflect.DeepEqual(reduced(d), reduced(c)) {
		t.Errorf("T4: Unpack of Pack of %v: %v, %d", c, d, e)
	}
}

func unpacks(t *testing.T, b []byte) bool {
	t.Helper()
	c, e := Unpack(b)
	want, ok := unpacked(b)
	if !ok {
		if e != api.ErrWire || !reflect.DeepEqual(c, api.Change{}) {
			t.Errorf("T4: Unpack of %x: %v, %d; want ErrWire", b, c, e)
		}
		return false
	}
	// That lists of nothing may be nil or empty holds for those that the kind uses: all others are zero.
	if c.Kind != api.ChangeWrite && c.Writes != nil || c.Kind != api.ChangeGrant && c.Grant.Policy != nil {
		t.Errorf("T4: Unpack of %x: %v has a list that it does not use", b, c)
	}
	c.Writes = reducedWrites(c.Writes)
	c.Grant.Policy = slices.Concat(c.Grant.Policy)
	if e != api.OK || !reflect.DeepEqual(c, want) {
		t.Errorf("T4: Unpack of %x: %v, %d; want %v", b, c, e, want)
	}
	if again, e := Pack(c); e != api.OK || !bytes.Equal(again, b) {
		t.Errorf("T4: Pack of Unpack of %x: %x, %d", b, again, e)
	}
	return true
}

func reducedWrites(l []api.Series) []api.Series {
	return reduced(api.Change{Kind: api.ChangeWrite, Writes: l}).Writes
}

func someChanges() []api.Change {
	digest := [32]byte{0: 7, 15: 0x80, 31: 9}
	all := api.Change{
		Tenant: "t", Series: 2, Samples: 100, Digest: digest, Window: 300,
		Grant:  api.Grant{Digest: [32]byte{1: 1}, Rights: 300, Policy: []api.Matcher{isNot("a", "x\"\n\\"), {Name: "b", Op: api.OpLike, Text: "x|y*"}}},
		Writes: []api.Series{{Labels: labels("", "v", "a", ""), Samples: []api.Sample{{T: -1, V: 128}, {T: math.MinInt64, V: math.MaxUint64}, {T: math.MaxInt64}}}, {}, {Labels: labels("a", strings.Repeat("é", 100))}, {Samples: []api.Sample{{}}}},
	}
	var out []api.Change
	for kind := range 5 {
		c := all
		c.Kind = kind + 1
		out = append(out, c, api.Change{Kind: c.Kind})
		c.Tenant = strings.Repeat("\xff", 64)
		c.Series, c.Samples, c.Grant.Rights, c.Window = math.MaxInt, 0, math.MaxInt, math.MaxInt64
		c.Grant.Policy, c.Writes = []api.Matcher{}, []api.Series{}
		out = append(out, c)
	}
	return out
}

func TestPackAndUnpack(t *testing.T) {
	for _, c := range someChanges() {
		packs(t, c)
		was := reduced(c)
		Pack(c)
		if !reflect.DeepEqual(reduced(c), was) {
			t.Errorf("P3: Pack writes into %v", c)
		}
	}
}

func TestPackByHand(t *testing.T) {
	nought := strings.Repeat("\x00", 31)
	for want, c := range map[string]api.Change{
		"\x01\x01t\x02d": {Kind: 1, Tenant: "t", Series: 2, Samples: 100, Window: 7, Digest: [32]byte{1}},
		"\x01\x00\xff\xff\xff\xff\xff\xff\xff\xff\x7f\x00": {Kind: 1, Series: math.MaxInt},
		"\x02\x03T !":                                                          {Kind: 2, Tenant: "T !", Window: -1, Series: -1, Samples: -1, Grant: api.Grant{Rights: -1, Policy: []api.Matcher{{}}}},
		"\x03\x01t" + nought + "\x05\x07\x02{}":                                {Kind: 3, Tenant: "t", Grant: api.Grant{Digest: [32]byte{31: 5}, Rights: 7}, Digest: [32]byte{9}, Window: -1},
		"\x03\x00" + nought + "\x00\x00\x06{a=\"\"}":                           {Kind: 3, Grant: api.Grant{Policy: []api.Matcher{is("a", "")}}},
		"\x04\x01t" + nought + "\x06":                                          {Kind: 4, Tenant: "t", Digest: [32]byte{31: 6}, Grant: api.Grant{Digest: [32]byte{9}}},
		"\x05\x01t\x80\x01\x01\x02\x01a\x01x\x01b\x00\x02\x03\x00\x04\x80\x01": {Kind: 5, Tenant: "t", Window: 128, Writes: []api.Series{{Labels: labels("a", "x", "b", ""), Samples: []api.Sample{{T: -2}, {T: 2, V: 128}}}}},
		"\x05\x00\x00\x00":                                                     {Kind: 5},
	} {
		if b, e := Pack(c); string(b) != want || e != api.OK {
			t.Errorf("T4: Pack of %v: %q, %d; want %q", c, b, e, want)
		}
		packs(t, c)
	}
}

func TestPackRefuses(t *testing.T) {
	nine := slices.Repeat([]api.Matcher{is("a", "x")}, 9)
	for _, c := range someChanges() {
		for _, change := range []func(c *api.Change){
			func(c *api.Change) { c.Kind = 0 }, func(c *api.Change) { c.Kind = 6 }, func(c *api.Change) { c.Kind = -1 }, func(c *api.Change) { c.Kind += 256 }, func(c *api.Change) { c.Kind += 1 << 40 },
			func(c *api.Change) { c.Tenant = strings.Repeat("t", 65) }, func(c *api.Change) { c.Tenant = strings.Repeat("t", 1000) },
			func(c *api.Change) { c.Series = -1 }, func(c *api.Change) { c.Samples = -1 }, func(c *api.Change) { c.Window = -1 }, func(c *api.Change) { c.Grant.Rights = -1 },
			func(c *api.Change) { c.Series = math.MinInt }, func(c *api.Change) { c.Samples = math.MinInt }, func(c *api.Change) { c.Window = math.MinInt64 }, func(c *api.Change) { c.Grant.Rights = math.MinInt },
			func(c *api.Change) { c.Grant.Policy = []api.Matcher{{}} }, func(c *api.Change) { c.Grant.Policy = nine }, func(c *api.Change) { c.Grant.Policy = nine[1:] }, func(c *api.Change) { c.Grant.Policy = []api.Matcher{{Name: "a", Op: 3, Text: "("}} },
		} {
			d := c
			change(&d)
			packs(t, d)
		}
	}
}

// Bytes that are near those of a change: cut off, with a byte more, less, or another one.
func TestUnpackIsStrict(t *testing.T) {
	taken, all := 0, 0
	try := func(b []byte) {
		all++
		if unpacks(t, b) {
			taken++
		}
	}
	for _, c := range someChanges() {
		b := changeBytes(c)
		for at := range len(b) {
			if unpacks(t, b[:at]) {
				t.Errorf("T4: the first %d bytes of %x are a change", at, b)
			}
			try(slices.Delete(bytes.Clone(b), at, at+1))
			for other := range 256 {
				try(slices.Concat(b[:at], []byte{byte(other)}, b[at+1:]))
			}
			for _, more := range []byte{0, 1, 0x80, 0xff, ' ', '"'} {
				try(slices.Insert(bytes.Clone(b), at, more))
			}
		}
		for other := range 256 {
			if unpacks(t, append(bytes.Clone(b), byte(other))) {
				t.Errorf("T4: %x and a byte behind it is a change", b)
			}
		}
	}
	if taken < 1000 || all-taken < 1000 {
		t.Errorf("of %d tries %d were taken", all, taken)
	}
}

func TestUnpackOtherForms(t *testing.T) {
	digest := strings.Repeat("\x00", 32)
	for _, b := range []string{
		"\x01\x01t\x82\x00d", "\x01\x01t\x02\xe4\x00", "\x01\x81\x00t\x02d", "\x01\x01t\x80\x80\x80\x80\x80\x80\x80\x80\x80\x01\x01", "\x01\x01t\x01\xff\xff\xff\xff\xff\xff\xff\xff\xff\x01",
		"\x05\x01t\x80\x80\x80\x80\x80\x80\x80\x80\x80\x01\x00", "\x05\x01t\x80\x00\x00", "\x03\x01t" + digest + "\x80\x80\x80\x80\x80\x80\x80\x80\x80\x01\x02{}",
		"\x03\x01t" + digest + "\x01\x03{ }", "\x03\x01t" + digest + "\x01\x03 {}", "\x03\x01t" + digest + "\x01\x00", "\x03\x01t" + digest + "\x01\x01{", "\x03\x01t" + digest + "\x01\x82\x00{}", "\x03\x01t" + digest + "\x01\x08{a=\"x\",}",
		"\x02\x41" + strings.Repeat("t", 65), "\x02\xff\xff\xff\xff\xff\xff\xff\xff\xff\x01",
		"\x05\x01t\x00\xff\xff\xff\xff\xff\xff\xff\xff\xff\x01", "\x05\x01t\x00\xff\xff\xff\xff\xff\xff\xff\xff\x7f\x00\x00", "\x05\x01t\x00\x01\xff\xff\xff\xff\xff\xff\xff\xff\x7f", "\x05\x01t\x00\x01\x00\xff\xff\xff\xff\xff\xff\xff\xff\xff\x01\x00\x00", "\x05\x01t\x00\x01\x01\xff\xff\xff\xff\xff\xff\xff\xff\x7f",
	} {
		if c, e := Unpack([]byte(b)); e != api.ErrWire || !reflect.DeepEqual(c, api.Change{}) {
			t.Errorf("T4: Unpack of %q: %v, %d", b, c, e)
		}
		unpacks(t, []byte(b))
	}
}

func TestUnpackAnyBytes(t *testing.T) {
	r := rand.New(rand.NewSource(20))
	taken := 0
	for range 200000 {
		b := make([]byte, r.Intn(14))
		for i := range b {
			b[i] = byte(r.Intn([]int{3, 8, 256}[r.Intn(3)]))
		}
		if len(b) > 0 && r.Intn(2) == 0 {
			b[0] = 5
		}
		if unpacks(t, b) {
			taken++
		}
		if t.Failed() {
			return
		}
	}
	if taken < 1000 {
		t.Errorf("of all tries %d were taken", taken)
	}
}

// Counts far above what is written so take no time, and what is long is no harm.
func TestLongChanges(t *testing.T) {
	c := api.Change{Kind: api.ChangeWrite, Tenant: "t"}
	c.Writes = slices.Repeat([]api.Series{{}}, 100000)
	c.Writes[7] = api.Series{Labels: slices.Repeat(labels("a", "x"), 100000)}
	c.Writes[9] = api.Series{Samples: slices.Repeat([]api.Sample{{T: 300, V: 300}}, 100000)}
	c.Writes[11] = api.Series{Labels: labels(strings.Repeat("n", 100000), strings.Repeat("v", 100000))}
	packs(t, c)
	g := made(t, 1)
	if e := g.Apply(changeBytes(c)); e != api.ErrTenant || g.After(changeBytes(c)) != 1 {
		t.Errorf("T3: Apply: %d", e)
	}
	if e := g.Apply([]byte("\x01\x01t\x01\x01")); e != api.OK {
		t.Fatalf("T3: Apply: %d", e)
	}
	if e := g.Apply(changeBytes(c)); e != api.ErrArg || g.After(changeBytes(c)) != g.Size() {
		t.Errorf("T3: Apply: %d", e)
	}
}
