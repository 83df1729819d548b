package fan

import (
	"bytes"
	"testing"

	"turnkey/disk"
	"turnkey/stack"
)

// spot is the place of a request: whose it is, and which of theirs.
type spot struct{ client, place int }

// spots is the order of V2, by its words: all first ones, then all second ones, and so on.
func spots(clients [][][]byte) []spot {
	longest := 0
	for _, l := range clients {
		longest = max(longest, len(l))
	}
	var out []spot
	for place := range longest {
		for client, l := range clients {
			if place < len(l) {
				out = append(out, spot{client, place})
			}
		}
	}
	return out
}

// plainly is what Do answers, in that order, up to a stop.
func plainly(s *stack.Stack, clients [][][]byte, stop int) [][][]byte {
	out := make([][][]byte, len(clients))
	for i, at := range spots(clients) {
		if stop < 0 || i < stop {
			out[at.client] = append(out[at.client], s.Do(clients[at.client][at.place]))
		}
	}
	return out
}

// sameAnswers: nil is another answer than no bytes.
func sameAnswers(one, other [][]byte) bool {
	if len(one) != len(other) {
		return false
	}
	for i := range one {
		if !bytes.Equal(one[i], other[i]) || (one[i] == nil) != (other[i] == nil) {
			return false
		}
	}
	return true
}

func sameRounds(one, other [][][]byte) bool {
	if len(one) != len(other) {
		return false
	}
	for i := range one {
		if !sameAnswers(one[i], other[i]) {
			return false
		}
	}
	return true
}

// sameDisks also holds the order of all that was written against each other. Both are started anew.
func sameDisks(one, other *disk.Disk) bool {
	if one.Falls() != other.Falls() {
		return false
	}
	one.Restart()
	other.Restart()
	for f := range 2 {
		b, e := one.Read(f, 0, one.Size(f))
		c, e2 := other.Read(f, 0, other.Size(f))
		if !bytes.Equal(b, c) || e != e2 || one.Lasts(f) != other.Lasts(f) {
			return false
		}
	}
	return true
}

// holds fails unless both answers, and what came of them on both disks, are the same.
func holds(t *testing.T, what string, got, want [][][]byte, d, plain *disk.Disk) {
	t.Helper()
	if !sameRounds(got, want) {
		t.Fatalf("%s: answers %x; want %x", what, got, want)
	}
	if !sameDisks(d, plain) {
		t.Fatalf("%s: on the disk lies something else than it should", what)
	}
}
