package stack

import (
	"bytes"
	"slices"
	"testing"

	"turnkey/api"
)

// guarded is these bytes, and spare room behind them.
func guarded(b []byte) []byte {
	return append(slices.Clone(b), bytes.Repeat([]byte{0xaa}, 20)...)[:len(b)]
}

// untouched tells whether guarded bytes, and the room behind them, are as they were.
func untouched(b, was []byte) bool {
	room := b[:cap(b)][len(b) : len(b)+20]
	return bytes.Equal(b, was) && bytes.Equal(room, bytes.Repeat([]byte{0xaa}, 20))
}

func scribble(b []byte) {
	b = b[:cap(b)]
	for i := range b {
		b[i] = 0x55
	}
}

func manyRequests() []api.Request {
	return []api.Request{
		makes("t", 5, 100), grants("t", "k", 15), grants("t", "e", 6, isNot("a", "y")), writes("k", "t", a("x", 1, 2), with(labels("a", "y", "b", "1"), 3)),
		counts("k", "t"), counts("e", "t"), by("k", api.KindNames, "t"), valuesOf("k", "t", "a"), queries("k", "t", 0, 9), queries("e", "t", 0, 9), asks("k", "t", "most by (a) {}"),
		writes("k", "t", a("x", 2)), counts("z", "t"), makes("u", 0, 0), revokes("t", "e"), counts("e", "t"), makes("u", 1, 1), drops("u"), by("k", api.KindRemove, "t"), makes("t", 1, 1),
	}
}

// P3, P4: two stacks are asked the same, and what goes in and comes out of one of them is written over.
func TestNothingIsShared(t *testing.T) {
	for _, cap := range []int{1024, 9000} {
		operator := guarded([]byte("op"))
		d, other := formatted(t, cap, 9), opened(t, formatted(t, cap, 9), 0)
		s, e := Open(d, operator, 0)
		if e != api.OK || !untouched(operator, []byte("op")) {
			t.Fatalf("P3: Open: %d; the token is %q", e, operator)
		}
		scribble(operator)
		for range 8 {
			for _, q := range append(manyRequests(), drops("t")) {
				bare := encoded(t, q)
				raw := guarded(bare)
				want := other.Do(bare)
				answer := s.Do(raw)
				if !untouched(raw, bare) || !bytes.Equal(answer, want) {
					t.Fatalf("P3: Do of %v writes into it, or answers %x; want %x", q, answer, want)
				}
				scribble(raw)
				names := s.Tenants()
				for i := range names {
					names[i] = "?"
				}
				scribble(answer)
				if !slices.Equal(s.Tenants(), other.Tenants()) || !bytes.Equal(s.door.Save(), other.door.Save()) || s.Bytes() != other.Bytes() {
					t.Fatalf("P3: what is written over behind %v was kept", q)
				}
			}
		}
		if s := reopened(t, d, 0); len(s.Tenants()) != 0 {
			t.Errorf("U2: %q", s.Tenants())
		}
	}
}

// P4: stacks on disks of their own have nothing to do with one another.
func TestStacksAreApart(t *testing.T) {
	d, s := begun(t, 1024, 4, 5, 100)
	_, other := begun(t, 1024, 4, 5, 100)
	was := other.door.Save()
	for _, q := range manyRequests() {
		s.Do(encoded(t, q))
		s.Tick(120000)
	}
	d.Crash(nil)
	if !bytes.Equal(other.door.Save(), was) || isDead(other) || other.Free() != 4 {
		t.Error("P4: one stack changes another one")
	}
	// Nor has one on a copy of its disk.
	d, s = begun(t, 1024, 4, 5, 100)
	copied := opened(t, d.Copy(), 0)
	wants(t, s, drops("t"), api.OK)
	wantsCount(t, copied, counts("k", "t"), 0)
	d.Crash(nil)
	wantsCount(t, copied, counts("k", "t"), 0)
}
