package fan

import (
	"fmt"
	"math"
	"math/rand"
	"runtime"
	"runtime/metrics"
	"slices"
	"testing"
	"testing/synctest"
	"time"
)

// Whatever way a call ends, nobody is left who waits: a bubble fails if one of its goroutines is blocked at its end.
func TestGoroutinesEnd(t *testing.T) {
	for seed := range int64(6) {
		clients := someClients(t, rand.New(rand.NewSource(seed)))
		l := someList(t, rand.New(rand.NewSource(seed)), 40)
		for _, workers := range crews {
			synctest.Test(t, func(t *testing.T) {
				_, s := begun(t, 4096, 10)
				All(s, l, workers)
				Round(s, clients, workers)
			})
		}
		for stop := range 12 {
			synctest.Test(t, func(t *testing.T) {
				d, s := begun(t, 4096, 10)
				Serve(s, clients, stop-1)
				d.Crash(nil)
				Serve(s, clients, stop-1)
			})
		}
	}
}

// None goes on by itself, either. (A goroutine that has done its last step may still be counted for a moment.)
func TestNoGoroutinesAreLeft(t *testing.T) {
	_, s := begun(t, 1<<16, 100)
	var l [][]byte
	for i := range 200 {
		l = append(l, writes(t, "t", "x", int64(i)))
	}
	before := runtime.NumGoroutine()
	for _, workers := range crews {
		All(s, l, workers)
		Round(s, [][][]byte{l, l, nil, l[:3]}, workers)
		Serve(s, [][][]byte{l, l, nil, l[:3]}, 7)
	}
	for i := 0; runtime.NumGoroutine() > before; i++ {
		if i == 1000 {
			t.Fatalf("%d goroutines are left", runtime.NumGoroutine()-before)
		}
		time.Sleep(time.Millisecond)
	}
}

// P4: however goroutines run.
func TestHoweverGoroutinesRun(t *testing.T) {
	was := runtime.GOMAXPROCS(0)
	defer runtime.GOMAXPROCS(was)
	r := rand.New(rand.NewSource(8))
	first, _ := begun(t, 1<<14, 50)
	var clients [][][]byte
	for range 9 {
		clients = append(clients, someList(t, r, 60))
	}
	plain, s := twin(t, first)
	want := plainly(s, clients, never)
	for _, procs := range []int{1, 2, 8} {
		runtime.GOMAXPROCS(procs)
		for range 10 {
			for _, workers := range []int{0, 2, 7, 16} {
				d, s := twin(t, first)
				holds(t, fmt.Sprintf("P4: %d at once, by %d workers", procs, workers), Round(s, clients, workers), want, d, plain)
			}
		}
	}
}

// P1: many clients of few requests, of none, and one of many: each is gone through once, not once a round.
func TestManyClients(t *testing.T) {
	const many = 100000
	clients := make([][][]byte, many)
	for i := range clients {
		if i%2 == 0 {
			clients[i] = [][]byte{{99}}
		}
	}
	_, s := begun(t, 1<<16, 100)
	clients[many-1] = make([][]byte, many)
	clients[many-1][many-1] = writes(t, "t", "x", 1)
	for _, workers := range []int{0, 16} {
		got := Round(s, clients, workers)
		if len(got) != many || len(got[many-1]) != many || len(got[0]) != 1 || len(got[1]) != 0 || len(got[many-2]) != 1 {
			t.Fatalf("V2: by %d workers: not as many answers as requests", workers)
		}
		if b := got[many-1][many-1]; workers == 0 && !sameAnswers([][]byte{b}, [][]byte{done(t)}) {
			t.Errorf("V2: by %d workers: the last one: %x", workers, b)
		}
	}
	got := Serve(s, clients, many/2)
	if len(got) != many || len(got[many-1]) != 0 || len(got[many-2]) != 1 {
		t.Errorf("V3: not as many answers as were done")
	}
}

func goroutinesSoFar() int {
	l := []metrics.Sample{{Name: "/sched/goroutines-created:goroutines"}}
	metrics.Read(l)
	return int(l[0].Value.Uint64())
}

// begins is how many goroutines a call begins. Now and then the runtime begins one of its own: the least of some counts is the call's.
func begins(call func()) int {
	least := math.MaxInt
	for range 5 {
		was := goroutinesSoFar()
		call()
		least = min(least, goroutinesSoFar()-was)
	}
	return least
}

// V1, V2: with 2 to 16 workers so many look at requests, with other numbers none does; how many clients there are does not matter.
func TestWhoLooks(t *testing.T) {
	_, s := begun(t, 4096, 10)
	l := [][]byte{counts(t, "t"), {99}, nil}
	crowd := slices.Repeat([][][]byte{l, nil}, 500)
	alone := begins(func() { All(s, l, 0) })
	two := begins(func() { All(s, l, 2) })
	if two < alone+2 {
		t.Errorf("V1: with no workers %d goroutines, with 2 of them %d", alone, two)
	}
	for _, workers := range append(crews, 4, 8) {
		want := alone
		if workers >= 2 && workers <= 16 {
			want = two + workers - 2
		}
		if n := begins(func() { All(s, l, workers) }); n != want {
			t.Errorf("V1: with %d workers %d goroutines; want %d", workers, n, want)
		}
		if n := begins(func() { Round(s, crowd, workers) }); n != want {
			t.Errorf("V2: with %d workers %d goroutines; want %d", workers, n, want)
		}
	}
	if n := begins(func() { Serve(s, crowd, 300) }); n != alone {
		t.Errorf("V3: %d goroutines; want %d", n, alone)
	}
}
