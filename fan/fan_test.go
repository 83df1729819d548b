package fan

import (
	"fmt"
	"math"
	"math/rand"
	"testing"

	"turnkey/api"
	"turnkey/stack"
)

// The chapter's examples.
func TestExamples(t *testing.T) {
	for _, workers := range crews {
		_, s := begun(t, 4096, 10)
		twice := [][]byte{writes(t, "t", "x", 5), writes(t, "t", "x", 5)}
		if got := All(s, twice, workers); !sameAnswers(got, [][]byte{{0, 0}, refused(t, api.ErrStale)}) {
			t.Errorf("V1: by %d workers: %x", workers, got)
		}
		for _, l := range [][][]byte{nil, {}} {
			if got := All(s, l, workers); len(got) != 0 {
				t.Errorf("V1: of no requests: %x", got)
			}
		}
		// What is done in the order a, c, b goes; in another one it is stale.
		a, b, c := writes(t, "t", "y", 1), writes(t, "t", "y", 3), writes(t, "t", "y", 2)
		if got := Round(s, [][][]byte{{a, b}, {}, {c}}, workers); !sameRounds(got, [][][]byte{{done(t), done(t)}, nil, {done(t)}}) {
			t.Errorf("V2: by %d workers: %x", workers, got)
		}
	}
	_, s := begun(t, 4096, 10)
	a, b, c := writes(t, "t", "y", 1), writes(t, "t", "y", 3), writes(t, "t", "y", 2)
	if got := Serve(s, [][][]byte{{a, b}, {}, {c}}, 2); !sameRounds(got, [][][]byte{{done(t)}, nil, {done(t)}}) {
		t.Errorf("V3: %x", got)
	}
	if got := s.Do(b); !sameAnswers([][]byte{got}, [][]byte{done(t)}) {
		t.Errorf("V3: what stands behind the stop was done: %x", got)
	}
}

// V1, P14: whatever is asked, by however many workers, it is what Do answers and writes; small logs and pools get full.
func TestAllIsDo(t *testing.T) {
	for seed := range int64(30) {
		r := rand.New(rand.NewSource(seed))
		first, _ := begun(t, pick(r, 1024, 4096, 1<<16), pick(r, 2, 10, 100))
		l := someList(t, r, 80)
		plain, s := twin(t, first)
		want := plainly(s, [][][]byte{l}, never)
		for _, workers := range crews {
			d, s := twin(t, first)
			got := All(s, l, workers)
			if len(got) != len(l) {
				t.Fatalf("V1: %d answers to %d requests", len(got), len(l))
			}
			holds(t, fmt.Sprintf("V1: seed %d, by %d workers", seed, workers), [][][]byte{got}, want, d, plain)
		}
	}
}

// V1: at how many requests there are, about how many workers there are.
func TestEachLengthByEachCrew(t *testing.T) {
	first, _ := begun(t, 1<<16, 100)
	for length := range 35 {
		var l [][]byte
		for i := range length {
			l = append(l, writes(t, "t", "x", int64(i)))
		}
		plain, s := twin(t, first)
		want := plainly(s, [][][]byte{l}, never)
		for workers := -1; workers <= 18; workers++ {
			d, s := twin(t, first)
			holds(t, fmt.Sprintf("V1: %d requests by %d workers", length, workers), [][][]byte{All(s, l, workers)}, want, d, plain)
		}
	}
}

// V1: what is no request is refused, side by side with requests, and what stands about it is done.
func TestWrongBytes(t *testing.T) {
	r := rand.New(rand.NewSource(1))
	var l, want [][]byte
	for i := range 200 {
		l, want = append(l, wrong(t, r)), append(want, refused(t, api.ErrWire))
		if i%3 == 0 {
			l, want = append(l, writes(t, "t", "x", int64(i))), append(want, done(t))
		}
	}
	for _, workers := range crews {
		_, s := begun(t, 1<<16, 100)
		if got := All(s, l, workers); !sameAnswers(got, want) {
			t.Errorf("V1: by %d workers: %x", workers, got)
		}
	}
}

// V2, P14.
func TestRoundIsDoInRounds(t *testing.T) {
	lists := [][][][]byte{nil, {}, {nil}, {nil, {}, nil}}
	for seed := range int64(30) {
		lists = append(lists, someClients(t, rand.New(rand.NewSource(seed))))
	}
	for i, clients := range lists {
		r := rand.New(rand.NewSource(int64(i)))
		first, _ := begun(t, pick(r, 1024, 4096, 1<<16), pick(r, 2, 10, 100))
		plain, s := twin(t, first)
		want := plainly(s, clients, never)
		for _, workers := range crews {
			d, s := twin(t, first)
			holds(t, fmt.Sprintf("V2: clients %d by %d workers", i, workers), Round(s, clients, workers), want, d, plain)
		}
	}
}

// V3: at each stop that there can be.
func TestServeStops(t *testing.T) {
	lists := [][][][]byte{nil, {nil}}
	for seed := range int64(12) {
		lists = append(lists, someClients(t, rand.New(rand.NewSource(seed))))
	}
	for i, clients := range lists {
		first, _ := begun(t, 4096, 10)
		stops := []int{math.MinInt, math.MinInt + 1, -2, -1, 1 << 40, math.MaxInt}
		for stop := range len(spots(clients)) + 3 {
			stops = append(stops, stop)
		}
		for _, stop := range stops {
			plain, s := twin(t, first)
			want := plainly(s, clients, stop)
			d, s := twin(t, first)
			holds(t, fmt.Sprintf("V3: clients %d, stop %d", i, stop), Serve(s, clients, stop), want, d, plain)
		}
	}
}

// The power fails at each op of what is asked: from there on all answers are nil, and those that were told last.
func TestPowerFails(t *testing.T) {
	r := rand.New(rand.NewSource(3))
	first, _ := begun(t, 1024, 20)
	var clients [][][]byte
	for i := range 3 {
		var l [][]byte
		for j := range 8 + i {
			l = append(l, writes(t, "t", fmt.Sprint(i), int64(j)), wrong(t, r), counts(t, "t"), grants(t, "u", fmt.Sprint("g", i, j), 6))
		}
		clients = append(clients, l)
	}
	type call func(s *stack.Stack) [][][]byte
	calls := []call{func(s *stack.Stack) [][][]byte { return Serve(s, clients, never) }, func(s *stack.Stack) [][][]byte { return Serve(s, clients, 60) }}
	for _, workers := range []int{0, 2, 16} {
		calls = append(calls, func(s *stack.Stack) [][][]byte { return Round(s, clients, workers) })
	}
	nils := 0
	for ops := 0; ops < 60; ops += 1 + ops/10 {
		for i, one := range calls {
			stop := never
			if i == 1 {
				stop = 60
			}
			keep := []int{r.Intn(50), r.Intn(50)}
			plain, s := twin(t, first)
			plain.Fuse(ops, keep)
			want := plainly(s, clients, stop)
			d, s := twin(t, first)
			d.Fuse(ops, keep)
			got := one(s)
			holds(t, fmt.Sprintf("U2: call %d, a fuse of %d ops", i, ops), got, want, d, plain)
			for _, l := range got {
				for _, b := range l {
					if b == nil {
						nils++
					}
				}
			}
		}
	}
	if nils < 500 {
		t.Errorf("only %d answers were nil", nils)
	}
}
