package sum

import (
	"bytes"
	"encoding/hex"
	"math/rand"
	"strings"
	"testing"
)

func TestHex(t *testing.T) {
	for want, b := range map[string][]byte{
		"":         nil,
		"00ff":     {0, 255},
		"00ff1009": {0, 255, 16, 9},
		"0a":       {10},
		"a0":       {160},
	} {
		if s := Hex(b); s != want {
			t.Errorf("B3: Hex(%v): %q, want %q", b, s, want)
		}
	}
	if Hex([]byte{}) != "" {
		t.Errorf("B3: Hex of nothing: %q", Hex([]byte{}))
	}
}

func TestUnhex(t *testing.T) {
	for s, want := range map[string]string{
		"":         "",
		"00ff":     "\x00\xff",
		"00ff1009": "\x00\xff\x10\x09",
		"abcdef":   "\xab\xcd\xef",
	} {
		if b, ok := Unhex(s); !ok || string(b) != want {
			t.Errorf("B3: Unhex(%q): %x, %v", s, b, ok)
		}
	}
}

func refused(t *testing.T, s string) {
	t.Helper()
	if b, ok := Unhex(s); ok || b != nil {
		t.Errorf("B3: Unhex(%q): %v, %v, want nil, false", s, b, ok)
	}
}

func TestUnhexOfWrongTexts(t *testing.T) {
	for _, s := range []string{
		"0", "000", "0g", "g0", "00fF", "00Ff", "FF", " 00", "00 ", " 0", "0 ", "0x00", "0x", "é", "ff:", "\x00\x00", "00\n", "-1", "+1",
		strings.Repeat("00", 100) + "0", strings.Repeat("00", 100) + "0G", "\xff\xff", "//", "::", "``", "gg", "@@", "a" + "\x3a", "٣",
	} {
		refused(t, s)
	}
}

// TestEveryPair: of all pairs of bytes just those are read which Hex writes.
func TestEveryPair(t *testing.T) {
	const digits = "0123456789abcdef"
	for a := range 256 {
		for b := range 256 {
			s := string([]byte{byte(a), byte(b)})
			high, low := strings.Index(digits, s[:1]), strings.Index(digits, s[1:])
			if high < 0 || low < 0 {
				refused(t, s)
				refused(t, "00"+s+"00")
				continue
			}
			got, ok := Unhex(s)
			if !ok || len(got) != 1 || int(got[0]) != 16*high+low || Hex(got) != s {
				t.Errorf("B3: Unhex(%q): %v, %v", s, got, ok)
			}
		}
	}
}

func TestUnhexOfHex(t *testing.T) {
	r := rand.New(rand.NewSource(6))
	for n := range 200 {
		b := someBytes(r, n)
		s := Hex(b)
		back, ok := Unhex(s)
		if s != hex.EncodeToString(b) || !ok || !bytes.Equal(back, b) {
			t.Fatalf("B3: %x: Hex %q, and back %x, %v", b, s, back, ok)
		}
	}
}

// TestDigestsByTheirDigits: a digest that is read from its digits is held against another by ==.
func TestDigestsByTheirDigits(t *testing.T) {
	d := Of([]byte("token"))
	b, ok := Unhex(Hex(d[:]))
	if !ok || len(b) != len(d) || [32]byte(b) != Of([]byte("token")) || [32]byte(b) == Of([]byte("Token")) {
		t.Errorf("B2, B3: a digest read from its digits: %x, %v", b, ok)
	}
}

// TestUnhexIsNewMemory: P3, the spare room included.
func TestUnhexIsNewMemory(t *testing.T) {
	one, _ := Unhex("0102")
	other, _ := Unhex("0102")
	for i := range one[:cap(one)] {
		one[:cap(one)][i] = 9
	}
	if again, _ := Unhex("0102"); !bytes.Equal(other, []byte{1, 2}) || !bytes.Equal(again, []byte{1, 2}) {
		t.Errorf("P3: answers share memory: %v, %v", other, again)
	}
}
