package post

import (
	"maps"
	"math/rand"
	"reflect"
	"slices"
	"testing"
)

// told is one thing that Walk tells.
type told struct {
	number uint32
	count  int
}

func walked(l ...[]uint32) []told {
	var out []told
	for n, count := range Walk(l...) {
		out = append(out, told{n, count})
	}
	return out
}

// plainWalk: each number of all, and the lists that have it counted one by one.
func plainWalk(l [][]uint32) []told {
	counts := map[uint32]int{}
	for _, one := range l {
		if !plainRises(one) {
			return nil
		}
		for _, n := range one {
			counts[n]++
		}
	}
	var out []told
	for _, n := range slices.Sorted(maps.Keys(counts)) {
		out = append(out, told{n, counts[n]})
	}
	return out
}

func checkWalk(t *testing.T, l ...[]uint32) {
	t.Helper()
	if got, want := walked(l...), plainWalk(l); !slices.Equal(got, want) {
		t.Fatalf("L3: Walk of %v: %v; want %v", l, got, want)
	}
}

func TestExampleOfWalk(t *testing.T) {
	got := walked([]uint32{1, 3}, []uint32{3, 7}, []uint32{3})
	if want := []told{{1, 1}, {3, 3}, {7, 1}}; !slices.Equal(got, want) {
		t.Errorf("L3: %v; want %v", got, want)
	}
}

func TestWalkOfAllSmallLists(t *testing.T) {
	lists := allOf(2, 0, 5, most)
	checkWalk(t)
	for _, a := range lists {
		checkWalk(t, a)
		for _, b := range lists {
			checkWalk(t, a, b)
			for _, c := range lists {
				checkWalk(t, a, b, c)
			}
		}
	}
}

func TestWalkOfSomeLists(t *testing.T) {
	r := rand.New(rand.NewSource(15))
	for range 2000 {
		lists := make([][]uint32, r.Intn(12))
		bound := []int64{3, 40, 1 << 32}[r.Intn(3)]
		for i := range lists {
			lists[i] = someList(r, r.Intn(20), bound)
		}
		checkWalk(t, lists...)
	}
}

// Whichever of many lists it is that does not rise, nothing is told.
func TestWalkOfOneThatDoesNotRise(t *testing.T) {
	for at := range 6 {
		lists := [][]uint32{{1}, {}, {0, 9}, {most}, nil, {2, 3}}
		for _, wrong := range [][]uint32{{3, 3}, {4, 3}, {0, 1, 2, 2}, {most, 0}} {
			lists[at] = wrong
			if got := walked(lists...); got != nil {
				t.Errorf("L3: Walk of %v: %v", lists, got)
			}
		}
	}
}

func TestWalkIsNeverNil(t *testing.T) {
	for _, lists := range [][][]uint32{nil, {nil}, {{}, {}}, {{2, 2}}, {{1}, {3, 2}}, {{1}}} {
		if Walk(lists...) == nil {
			t.Errorf("L3: Walk of %v is nil", lists)
		}
	}
}

func TestWhatFollowsOfWalk(t *testing.T) {
	r := rand.New(rand.NewSource(16))
	for range 1000 {
		a, b := someList(r, r.Intn(30), 50), someList(r, r.Intn(30), 50)
		var one, all, both []uint32
		for n, count := range Walk(a) {
			one = append(one, n)
			if count != 1 {
				t.Fatalf("L3: %d is in %d lists of one", n, count)
			}
		}
		for n, count := range Walk(a, b) {
			all = append(all, n)
			if count == 2 {
				both = append(both, n)
			}
		}
		if !slices.Equal(one, a) || !slices.Equal(all, Or(a, b)) || !slices.Equal(both, And(a, b)) {
			t.Fatalf("L3: of %v, %v: %v, %v, %v", a, b, one, all, both)
		}
	}
}

// A list that is handed in twice is two lists.
func TestWalkOfOneListTwice(t *testing.T) {
	l := []uint32{1, 4}
	if got := walked(l, l, l[:1]); !slices.Equal(got, []told{{1, 3}, {4, 2}}) {
		t.Errorf("L3: %v", got)
	}
}

func TestWalkGoesOverTheListsAsTheyWere(t *testing.T) {
	a, b := guarded([]uint32{1, 3}), guarded([]uint32{3, 7})
	for _, lists := range [][][]uint32{{a, b}, {a}, {nil, a}} {
		was := make([][]uint32, len(lists))
		for i, l := range lists {
			was[i] = slices.Clone(l)
		}
		seq := Walk(lists...)
		for _, l := range [][]uint32{a, b} {
			scribble(l)
		}
		lists[0] = []uint32{9, 9}
		var got []told
		for n, count := range seq {
			got = append(got, told{n, count})
			a[0]++
		}
		if want := plainWalk(was); !slices.Equal(got, want) {
			t.Errorf("L3: %v; want %v", got, want)
		}
		copy(a, []uint32{1, 3})
		copy(b, []uint32{3, 7})
	}
}

// Nor does one that did not rise begin to tell, when it is made to rise.
func TestWalkOfWhatRisesTooLate(t *testing.T) {
	l := []uint32{3, 3}
	seq := Walk(l)
	l[1] = 4
	for n := range seq {
		t.Errorf("L3: %d is told", n)
	}
}

func TestWalkWritesIntoNothing(t *testing.T) {
	wasA, wasB, wasC := []uint32{5, 6}, []uint32{1, 9}, []uint32{2, 2}
	a, b, c := guarded(wasA), guarded(wasB), guarded(wasC)
	lists := [][]uint32{a, b, nil}
	room := lists[:2]
	for range Walk(room...) {
	}
	for range Walk(a, b, c) {
	}
	if !untouched(a, wasA) || !untouched(b, wasB) || !untouched(c, wasC) {
		t.Errorf("P3: %v, %v, %v", a, b, c)
	}
	if lists[2] != nil || !reflect.DeepEqual(room, [][]uint32{wasA, wasB}) {
		t.Errorf("P3: %v", lists)
	}
}

func TestWalkMayBeLeftAndGoneThroughAgain(t *testing.T) {
	seq := Walk([]uint32{1, 3, 8}, []uint32{3, 7})
	want := []told{{1, 1}, {3, 2}, {7, 1}, {8, 1}}
	for stop := range len(want) + 1 {
		var got []told
		for n, count := range seq {
			got = append(got, told{n, count})
			if len(got) == stop {
				break
			}
		}
		if stop > 0 && !slices.Equal(got, want[:stop]) || stop == 0 && !slices.Equal(got, want) {
			t.Errorf("L3: left at the %d. number: %v", stop, got)
		}
	}
}

func TestWalkWithinItself(t *testing.T) {
	seq := Walk([]uint32{1, 3}, []uint32{3, 7})
	all := []told{{1, 1}, {3, 2}, {7, 1}}
	var got, want []told
	for n, count := range seq {
		got = append(got, told{n, count})
		for m, count := range seq {
			got = append(got, told{m, count})
			if m == n {
				break
			}
		}
	}
	for i, one := range all {
		want = append(append(want, one), all[:i+1]...)
	}
	if !slices.Equal(got, want) {
		t.Errorf("L3: %v; want %v", got, want)
	}
}

func TestWalkOfManyListsIsCheap(t *testing.T) {
	lists := make([][]uint32, 100_000)
	for i := range lists {
		lists[i] = []uint32{uint32(i % 1000), 1000 + uint32(i)}
	}
	numbers, all := 0, 0
	for _, count := range Walk(lists...) {
		numbers, all = numbers+1, all+count
	}
	if numbers != 101_000 || all != 200_000 {
		t.Errorf("L3: %d numbers, %d in all", numbers, all)
	}
}
