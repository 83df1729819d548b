package fan

import (
	"bytes"
	"math/rand"
	"slices"
	"testing"

	"turnkey/stack"
)

var spare = bytes.Repeat([]byte{0xaa}, 20)

// guarded is the same clients, and in each list of theirs, and behind each request, spare room with something in it.
func guarded(clients [][][]byte) [][][]byte {
	var out [][][]byte
	for _, l := range clients {
		var list [][]byte
		for _, raw := range l {
			list = append(list, append(slices.Clone(raw), spare...)[:len(raw)])
		}
		out = append(out, append(list, spare)[:len(list)])
	}
	return append(out, [][]byte{spare})[:len(out)]
}

func untouched(clients, was [][][]byte) bool {
	if !sameAnswers(clients[:len(was)+1][len(was)], [][]byte{spare}) || len(clients) != len(was) {
		return false
	}
	for i, l := range clients {
		if len(l) != len(was[i]) || !bytes.Equal(l[:len(l)+1][len(l)], spare) {
			return false
		}
		for j, raw := range l {
			if !bytes.Equal(raw, was[i][j]) || !bytes.Equal(raw[:len(raw)+20][len(raw):], spare) {
				return false
			}
		}
	}
	return true
}

// scribble writes into all of a call's answers, and into all spare room that they have: what is there must stay apart.
func scribble(t *testing.T, rounds [][][]byte) {
	t.Helper()
	mark := byte(0)
	rounds = rounds[:cap(rounds)]
	for i := range rounds {
		list := rounds[i][:cap(rounds[i])]
		for j := range list {
			mark++
			fill(list[j], mark)
		}
	}
	mark = 0
	for i := range rounds {
		list := rounds[i][:cap(rounds[i])]
		for j, b := range list {
			mark++
			if b = b[:cap(b)]; !bytes.Equal(b, bytes.Repeat([]byte{mark}, len(b))) {
				t.Fatalf("P3: the answers %d of %d share memory", j, i)
			}
		}
	}
	// The lists, too, have nothing to do with one another.
	for i := range rounds {
		list := rounds[i][:cap(rounds[i])]
		for j := range list {
			list[j] = []byte{byte(i)}
		}
	}
	for i := range rounds {
		for _, b := range rounds[i][:cap(rounds[i])] {
			if b[0] != byte(i) {
				t.Fatalf("P3: the lists of the clients %d and %d share memory", i, b[0])
			}
		}
	}
}

func fill(b []byte, mark byte) {
	b = b[:cap(b)]
	for i := range b {
		b[i] = mark
	}
}

// P3: two stacks are asked the same; what goes in to one of them, and comes out of it, is written over behind each call.
func TestNothingIsShared(t *testing.T) {
	for _, workers := range []int{0, 2, 16} {
		first, _ := begun(t, 1<<14, 50)
		plain, other := twin(t, first)
		d, s := twin(t, first)
		r := rand.New(rand.NewSource(int64(workers)))
		for range 20 {
			was := someClients(t, r)
			one := was[:min(1, len(was))]
			for _, call := range []struct {
				clients [][][]byte
				do      func(s *stack.Stack, clients [][][]byte) [][][]byte
			}{
				{was, func(s *stack.Stack, clients [][][]byte) [][][]byte { return Round(s, clients, workers) }},
				{was, func(s *stack.Stack, clients [][][]byte) [][][]byte { return Serve(s, clients, 5) }},
				{one, func(s *stack.Stack, clients [][][]byte) [][][]byte {
					var out [][][]byte
					for _, l := range clients {
						out = append(out, All(s, l, workers))
					}
					return out
				}},
			} {
				clients := guarded(call.clients)
				want := call.do(other, deepClone(call.clients))
				got := call.do(s, clients)
				if !untouched(clients, call.clients) {
					t.Fatalf("P3: by %d workers: what is handed in is written into", workers)
				}
				if !sameRounds(got, want) {
					t.Fatalf("P4: by %d workers: %x; want %x", workers, got, want)
				}
				scribble(t, got)
				for _, l := range clients {
					for _, raw := range l {
						fill(raw, 0x55)
					}
				}
			}
		}
		if !sameDisks(d, plain) {
			t.Errorf("P3: by %d workers: what is written over was kept", workers)
		}
	}
}

// P3: one request may stand in many places, and requests may lie in one another's memory.
func TestRequestsMayShareMemory(t *testing.T) {
	count, write := counts(t, "t"), writes(t, "t", "x", 7)
	all := slices.Concat(count, write)
	l := [][]byte{all, all[:len(count)], all[len(count):], all[:len(count):len(count)], all[len(count):], all[:0]}
	clients := [][][]byte{l, l, l[1:3], l[:0]}
	for _, workers := range crews {
		first, _ := begun(t, 4096, 10)
		plain, s := twin(t, first)
		want := plainly(s, deepClone(clients), never)
		d, s := twin(t, first)
		holds(t, "V2", Round(s, clients, workers), want, d, plain)
	}
}
