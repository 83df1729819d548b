package token

import (
	"bytes"
	"crypto/sha256"
	"encoding/binary"
	"math"
	"slices"
	"strings"
	"testing"

	"turnkey/api"
)

func loads(t *testing.T, b []byte, size int, want ...api.Grant) {
	t.Helper()
	x := New()
	if n, e := x.Load("t", b); n != size || e != api.OK {
		t.Errorf("P3: Load(%x): %d, %d; want %d", b, n, e, size)
	}
	lists(t, x, "t", want...)
}

func refuses(t *testing.T, b []byte) {
	t.Helper()
	x := New()
	if n, e := x.Load("t", b); n != 0 || e != api.ErrSave || len(x.grants) != 0 {
		t.Errorf("P3: Load(%x): %d, %d, and %v is kept; want ErrSave", b, n, e, x.grants)
	}
}

// written is a grant's bytes, whether it may be or not.
func written(digest [32]byte, rights uint64, policy string) []byte {
	out := binary.AppendUvarint(digest[:], rights)
	return append(binary.AppendUvarint(out, uint64(len(policy))), policy...)
}

// row is some grants' bytes, with how many there are ahead of them.
func row(grants ...[]byte) []byte {
	return append([]byte{byte(len(grants))}, bytes.Join(grants, nil)...)
}

func TestSaveExamples(t *testing.T) {
	x, abc := New(), sha256.Sum256([]byte("abc"))
	if b := x.Save("t"); !bytes.Equal(b, []byte{0}) {
		t.Errorf("P3: Save of who has none: %x", b)
	}
	x.Grant("t", grantFor("abc", 2))
	one := slices.Concat([]byte{1}, abc[:], []byte{2, 2, '{', '}'})
	if b := x.Save("t"); !bytes.Equal(b, one) {
		t.Errorf("P3: Save: %x; want %x", b, one)
	}
	y := New()
	if n, e := y.Load("t", append(bytes.Clone(one), 0xff)); n != 37 || e != api.OK {
		t.Errorf("P3: Load: %d, %d", n, e)
	}
	if n, e := y.Load("t", append(bytes.Clone(one), 0xff)); n != 0 || e != api.ErrState {
		t.Errorf("P3: Load again: %d, %d", n, e)
	}
	bears(t, y, "t", "abc", grantFor("abc", 2))
	refuses(t, one[:32])
	refuses(t, []byte{0x80, 0})
	refuses(t, row(written([32]byte{2}, 1, "{}"), written([32]byte{1}, 1, "{}")))
}

func TestSaveByTheWords(t *testing.T) {
	x := New()
	x.Grant("t", grantOf(9, 15, m("b", api.OpUnlike, "[cba]"), m("a", api.OpIs, "x\"\\\n")))
	x.Grant("u", grantOf(1, 1))
	x.Grant("t", grantOf(3, 1, m("a", api.OpNot, "")))
	want := row(written([32]byte{31: 3}, 1, `{a!=""}`), written([32]byte{31: 9}, 15, `{b!~"[cba]", a="x\"\\\n"}`))
	if b := x.Save("t"); !bytes.Equal(b, want) {
		t.Errorf("P3: Save: %x; want %x", b, want)
	}
}

func TestSaveKnowsNoOrder(t *testing.T) {
	grants := filled(t).List("t")
	want := filled(t).Save("t")
	for turn := range len(grants) {
		x := New()
		for i := range grants {
			x.Grant("t", grants[(i*3+turn)%len(grants)])
		}
		if b := x.Save("t"); !bytes.Equal(b, want) {
			t.Errorf("P3: Save, from the grant %d on: %x", turn, b)
		}
	}
}

// Whatever stands behind, also what looks like a grant more, is not read.
func TestLoadOfSave(t *testing.T) {
	x := New()
	for i, policy := range rightPolicies() {
		x.Grant("t", grantOf(byte(i), i+1, policy...))
		saved := x.Save("t")
		for _, behind := range [][]byte{nil, {0}, {0xff}, {0x80, 0}, saved, written([32]byte{1}, 1, "{}")} {
			loads(t, slices.Concat(saved, behind), len(saved), x.List("t")...)
		}
		for cut := range saved {
			refuses(t, saved[:cut])
		}
	}
	loads(t, []byte{0}, 1)
	loads(t, []byte{0, 1, 2}, 1)
}

func TestLoadOfAsManyAsMayBe(t *testing.T) {
	x := New()
	for i := range api.MaxTokens {
		answers(t, "P1: Grant", x.Grant("t", grantOf(byte(i), 15, longestPolicy()...)), api.OK)
	}
	saved := x.Save("t")
	if want := 1 + 16*(32+1+2+1328); len(saved) != want {
		t.Errorf("P3: Save has %d bytes; want %d", len(saved), want)
	}
	loads(t, saved, len(saved), x.List("t")...)
	y := New()
	y.Load("t", saved)
	answers(t, "P1: one more than may be", y.Grant("t", grantOf(99, 1)), api.ErrMany)

	var grants [][]byte
	for i := range 17 {
		grants = append(grants, written([32]byte{31: byte(i)}, 1, "{}"))
	}
	loads(t, row(grants[:16]...), 1+16*36, shortest(16)...)
	refuses(t, row(grants...))
}

// shortest is grants for the digests from 0 on, with the right to write alone.
func shortest(n int) []api.Grant {
	var out []api.Grant
	for i := range n {
		out = append(out, grantOf(byte(i), api.MayWrite))
	}
	return out
}

// How many there are has one form, and is at most 16: a greater number is refused ahead of all else, however great.
func TestLoadOfCounts(t *testing.T) {
	refuses(t, nil)
	refuses(t, []byte{})
	for _, count := range [][]byte{{0x80}, {0x80, 0}, {0x81, 0}, {0xff}, slices.Repeat([]byte{0x80}, 100), append(bytes.Repeat([]byte{0xff}, 9), 2)} {
		refuses(t, append(count, written([32]byte{}, 1, "{}")...))
	}
	for _, count := range []uint64{1, 2, 16, 17, 127, 128, 1 << 16, 1 << 32, math.MaxInt64, 1 << 63, math.MaxUint64} {
		refuses(t, binary.AppendUvarint(nil, count))
	}
	var grants []byte
	for i := range 300 {
		grants = append(grants, written([32]byte{byte(i >> 8), byte(i)}, 1, "{}")...)
	}
	for _, count := range []uint64{17, 18, 127, 128, 256, 257, 300} {
		refuses(t, append(binary.AppendUvarint(nil, count), grants...))
	}
}

func TestLoadOfRights(t *testing.T) {
	for rights := uint64(1); rights <= 15; rights++ {
		loads(t, row(written([32]byte{}, rights, "{}")), 37, grantOf(0, int(rights)))
	}
	for _, rights := range []uint64{0, 16, 17, 127, 128, 129, 255, 256, 257, 1<<32 + 1, math.MaxInt64, 1 << 63, 1<<63 + 1, math.MaxUint64} {
		refuses(t, row(written([32]byte{}, rights, "{}")))
	}
	for _, rights := range []string{"\x81\x00", "\x8f\x80\x00", "\x80", "\xff", ""} {
		refuses(t, row([]byte(strings.Repeat("d", 32)+rights+"\x02{}")))
	}
}

func TestLoadOfPolicies(t *testing.T) {
	for _, text := range []string{
		"", "{ }", " {}", "{} ", "{", "}", "{}{}", "x", "\x00", "{}\n",
		`{a="x" }`, `{ a="x"}`, `{a ="x"}`, `{a= "x"}`, `{a="x",b="y"}`, `{a="x",  b="y"}`, `{a="x" , b="y"}`, `{a="x",}`,
		`{a="x\q"}`, "{a=\"\n\"}", `{a}`, `{a=x}`, `{1="x"}`, `{a=~"("}`, "{a=\"\xff\"}", `{a="` + strings.Repeat("v", 65) + `"}`, `{` + strings.Repeat("n", 33) + `=""}`,
		`{` + strings.Repeat(`a="x", `, 8) + `a="x"}`,
	} {
		refuses(t, row(written([32]byte{}, 1, text)))
	}
	for text, policy := range map[string][]api.Matcher{
		"{}": nil, `{b="", a!="x"}`: {m("b", 1, ""), m("a", 2, "x")}, `{a=~"[cba]", a=~"[a-c]"}`: {m("a", 3, "[cba]"), m("a", 3, "[a-c]")}, `{a="\n\"\\"}`: {m("a", 1, "\n\"\\")}, "{a=\"\t\"}": {m("a", 1, "\t")},
	} {
		b := row(written([32]byte{}, 7, text))
		loads(t, b, len(b), grantOf(0, 7, policy...))
	}
}

// How long a policy's text is, has one form, too, and says no more than is there.
func TestLoadOfLengths(t *testing.T) {
	digest := strings.Repeat("d", 32)
	for _, text := range []string{"", "\x02", "\x02{", "\x82\x00{}", "\x03{}", "\x00{}", "\x01{}", "\xff\xff\xff\xff\xff\xff\xff\xff\xff\x01{}", "\xff\xff\xff\xff\xff\xff\xff\xff\x7f{}", "\x80"} {
		refuses(t, []byte("\x01"+digest+"\x01"+text))
	}
}

func TestLoadOfDigestsThatDoNotRise(t *testing.T) {
	one := func(digest [32]byte) []byte { return written(digest, 1, "{}") }
	low, high, top := [32]byte{31: 0x7f}, [32]byte{31: 0x80}, [32]byte{0: 1}
	loads(t, row(one(low), one(high), one(top)), 109, api.Grant{Digest: low, Rights: 1}, api.Grant{Digest: high, Rights: 1}, api.Grant{Digest: top, Rights: 1})
	for _, l := range [][][32]byte{{low, low}, {high, low}, {top, high}, {low, high, high}, {low, top, high}, {high, low, top}, {low, high, low}} {
		var grants [][]byte
		for _, digest := range l {
			grants = append(grants, one(digest))
		}
		refuses(t, row(grants...))
	}
	// Twice one digest, though the grants are unlike.
	refuses(t, row(written(low, 1, "{}"), written(low, 2, "{}")))
}

// That a tenant has a grant is told ahead of what is wrong with the bytes; of another tenant nothing is.
func TestLoadOfWhoHasAGrant(t *testing.T) {
	x := New()
	x.Grant("t", grantOf(1, 1))
	for _, b := range [][]byte{nil, {0}, {0x80, 0}, {0xff}, x.Save("t"), row(written([32]byte{2}, 1, "{}"))} {
		if n, e := x.Load("t", b); n != 0 || e != api.ErrState {
			t.Errorf("P3: Load(%x) of who has a grant: %d, %d", b, n, e)
		}
	}
	lists(t, x, "t", grantOf(1, 1))
	if n, e := x.Load("u", x.Save("t")); n != 37 || e != api.OK {
		t.Errorf("P3: Load of another tenant: %d, %d", n, e)
	}
	x.Revoke("t", grantOf(1, 0).Digest)
	if n, e := x.Load("t", x.Save("u")); n != 37 || e != api.OK {
		t.Errorf("P3: Load behind Revoke: %d, %d", n, e)
	}
	x.Drop("t")
	for range 2 {
		if n, e := x.Load("t", []byte{0, 9}); n != 1 || e != api.OK {
			t.Errorf("P3: Load of nothing: %d, %d", n, e)
		}
	}
	lists(t, x, "u", grantOf(1, 1))
}

// What was loaded is as what was granted.
func TestLoadedGrantsGoOn(t *testing.T) {
	x, y := New(), New()
	k := grantFor("k", 3, m("a", api.OpIs, "x"))
	x.Grant("t", k)
	x.Grant("t", grantFor("l", 4))
	y.Load("u", x.Save("t"))
	bears(t, y, "u", "k", k)
	bearsNothing(t, y, "t", "k")
	answers(t, "P1: Grant of what was loaded", y.Grant("u", k), api.ErrKnown)
	answers(t, "P1: Revoke of what was loaded", y.Revoke("u", k.Digest), api.OK)
	bearsNothing(t, y, "u", "k")
	if n := y.Drop("u"); n != 1 {
		t.Errorf("P1: Drop of what was loaded: %d", n)
	}
}
