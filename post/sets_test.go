package post

import (
	"math"
	"math/rand"
	"slices"
	"testing"
)

const most = math.MaxUint32

// plainRises: as the chapter says it, of every two numbers.
func plainRises(l []uint32) bool {
	for i := range l {
		for j := range i {
			if l[j] >= l[i] {
				return false
			}
		}
	}
	return true
}

// plainHas: is it there, and is it a list at all?
func plainHas(l []uint32, n uint32) bool {
	for _, m := range l {
		if m == n {
			return plainRises(l)
		}
	}
	return false
}

// plainPick: those of both lists' numbers that are wanted, one by one, then sorted; nothing if one does not rise.
func plainPick(a, b []uint32, wanted func(inA, inB bool) bool) []uint32 {
	var out []uint32
	if !plainRises(a) || !plainRises(b) {
		return nil
	}
	for _, n := range a {
		if wanted(true, plainHas(b, n)) {
			out = append(out, n)
		}
	}
	for _, n := range b {
		if !plainHas(a, n) && wanted(false, true) {
			out = append(out, n)
		}
	}
	slices.Sort(out)
	return out
}

// allOf: every list of at most so many of these numbers, whether it rises or not.
func allOf(size int, numbers ...uint32) [][]uint32 {
	out := [][]uint32{nil}
	level := out
	for range size {
		var next [][]uint32
		for _, l := range level {
			for _, n := range numbers {
				next = append(next, append(slices.Clone(l), n))
			}
		}
		out = append(out, next...)
		level = next
	}
	return out
}

// subsets: every rising list of these numbers, which rise.
func subsets(numbers ...uint32) [][]uint32 {
	var out [][]uint32
	for mask := range 1 << len(numbers) {
		var l []uint32
		for i, n := range numbers {
			if mask>>i&1 == 1 {
				l = append(l, n)
			}
		}
		out = append(out, l)
	}
	return out
}

// someList: a rising list of numbers below the bound, about so many.
func someList(r *rand.Rand, size int, bound int64) []uint32 {
	out := make([]uint32, size)
	for i := range out {
		out[i] = uint32(r.Int63n(bound))
	}
	slices.Sort(out)
	return slices.Compact(out)
}

// upTo: 0, step, 2 step, .., so many.
func upTo(count int, step uint32) []uint32 {
	out := make([]uint32, count)
	for i := range out {
		out[i] = uint32(i) * step
	}
	return out
}

// checkSets holds And, Or, Not against the plain ones.
func checkSets(t *testing.T, a, b []uint32) {
	t.Helper()
	wasA, wasB := slices.Clone(a), slices.Clone(b)
	for _, c := range []struct {
		name   string
		call   func(a, b []uint32) []uint32
		wanted func(inA, inB bool) bool
	}{
		{"And", And, func(inA, inB bool) bool { return inA && inB }},
		{"Or", Or, func(inA, inB bool) bool { return inA || inB }},
		{"Not", Not, func(inA, inB bool) bool { return inA && !inB }},
	} {
		got, want := c.call(a, b), plainPick(a, b, c.wanted)
		if !slices.Equal(got, want) {
			t.Fatalf("L1: %s(%v, %v) = %v; want %v", c.name, a, b, got, want)
		}
		if (!plainRises(a) || !plainRises(b)) && got != nil {
			t.Fatalf("L1: %s(%v, %v) is not nil", c.name, a, b)
		}
	}
	if !slices.Equal(a, wasA) || !slices.Equal(b, wasB) {
		t.Fatalf("P3: %v, %v became %v, %v", wasA, wasB, a, b)
	}
}

// checkOne holds Has, Add, Take against the plain ones.
func checkOne(t *testing.T, l []uint32, n uint32) {
	t.Helper()
	was := slices.Clone(l)
	list, has := plainRises(l), plainHas(l, n)
	var with, without []uint32
	if list {
		with = plainPick(l, []uint32{n}, func(inA, inB bool) bool { return true })
		without = slices.DeleteFunc(slices.Clone(l), func(m uint32) bool { return m == n })
	}
	if got := Has(l, n); got != has {
		t.Fatalf("L1: Has(%v, %d) = %v", l, n, got)
	}
	if got, ok := Add(l, n); !slices.Equal(got, with) || ok != (list && !has) || !list && got != nil {
		t.Fatalf("L2: Add(%v, %d) = %v, %v; want %v", l, n, got, ok, with)
	}
	if got, ok := Take(l, n); !slices.Equal(got, without) || ok != has || !list && got != nil {
		t.Fatalf("L2: Take(%v, %d) = %v, %v; want %v", l, n, got, ok, without)
	}
	if !slices.Equal(l, was) {
		t.Fatalf("P3: %v became %v", was, l)
	}
}

func TestExamplesOfSets(t *testing.T) {
	a, b := []uint32{1, 3, 5}, []uint32{3, 4, 5}
	if got := And(a, b); !slices.Equal(got, []uint32{3, 5}) {
		t.Errorf("L1: And: %v", got)
	}
	if got := Or(a, b); !slices.Equal(got, []uint32{1, 3, 4, 5}) {
		t.Errorf("L1: Or: %v", got)
	}
	if got := Not(a, b); !slices.Equal(got, []uint32{1}) {
		t.Errorf("L1: Not: %v", got)
	}
	for _, call := range []func(a, b []uint32) []uint32{And, Or, Not} {
		if call([]uint32{1, 1}, []uint32{2}) != nil || call([]uint32{2}, []uint32{1, 1}) != nil {
			t.Error("L1: of a list that does not rise something is told")
		}
	}
	if !Has(a, 3) || Has(a, 4) || Has([]uint32{5, 3}, 3) || Has([]uint32{5, 3}, 5) {
		t.Error("L1: Has")
	}
}

func TestExamplesOfOneNumber(t *testing.T) {
	l := []uint32{1, 3, 5}
	if got, ok := Add(l, 4); !slices.Equal(got, []uint32{1, 3, 4, 5}) || !ok {
		t.Errorf("L2: Add of 4: %v, %v", got, ok)
	}
	if got, ok := Add(l, 3); !slices.Equal(got, l) || ok {
		t.Errorf("L2: Add of 3: %v, %v", got, ok)
	}
	if got, ok := Take(l, 3); !slices.Equal(got, []uint32{1, 5}) || !ok {
		t.Errorf("L2: Take of 3: %v, %v", got, ok)
	}
	if got, ok := Take(l, 4); !slices.Equal(got, l) || ok {
		t.Errorf("L2: Take of 4: %v, %v", got, ok)
	}
	if got, ok := Take([]uint32{4}, 4); len(got) != 0 || !ok {
		t.Errorf("L2: Take of all: %v, %v", got, ok)
	}
}

func TestAllSmallLists(t *testing.T) {
	lists := allOf(3, 0, 1, most-1, most)
	for _, a := range lists {
		for _, b := range lists {
			checkSets(t, a, b)
		}
		for _, n := range []uint32{0, 1, 2, 1 << 31, most - 2, most - 1, most} {
			checkOne(t, a, n)
		}
	}
}

func TestAllSubsets(t *testing.T) {
	lists := subsets(0, 1, 2, 1<<31-1, 1<<31, most)
	for _, a := range lists {
		for _, b := range lists {
			checkSets(t, a, b)
		}
	}
}

// A list may fall anywhere, in one place alone: also at its ends, and behind all that the other list has.
func TestOneFallSpoilsAList(t *testing.T) {
	for size := 2; size <= 40; size++ {
		for at := 1; at < size; at++ {
			same, below := upTo(size, 3), upTo(size, 3)
			same[at] = same[at-1]
			below[at], below[at-1] = below[at-1], below[at]
			for _, l := range [][]uint32{same, below} {
				for _, other := range [][]uint32{nil, {0}, {1}, {most}, upTo(size, 3), l} {
					checkSets(t, l, other)
					checkSets(t, other, l)
				}
				checkOne(t, l, l[0])
				checkOne(t, l, l[at])
				checkOne(t, l, 1)
			}
		}
	}
}

func TestSomeLists(t *testing.T) {
	r := rand.New(rand.NewSource(12))
	for range 3000 {
		bound := []int64{3, 50, 500, 1 << 32}[r.Intn(4)]
		a, b := someList(r, r.Intn(60), bound), someList(r, r.Intn(60), bound)
		checkSets(t, a, b)
		checkOne(t, a, uint32(r.Int63n(bound)))
		if len(a) > 0 {
			checkOne(t, a, a[r.Intn(len(a))])
		}
	}
}

// The laws of sets that the chapter names.
func TestWhatFollowsOfSets(t *testing.T) {
	r := rand.New(rand.NewSource(13))
	for range 2000 {
		a, b := someList(r, r.Intn(40), 60), someList(r, r.Intn(40), 60)
		if got := Or(And(a, b), Not(a, b)); !slices.Equal(got, a) {
			t.Fatalf("And(a, b) or Not(a, b) of %v, %v: %v", a, b, got)
		}
		if !slices.Equal(And(a, b), And(b, a)) || !slices.Equal(Or(a, b), Or(b, a)) {
			t.Fatalf("%v, %v: the order shows", a, b)
		}
		rest := Not(a, And(a, b))
		for n := range uint32(62) {
			if Has(rest, n) != (Has(a, n) && !Has(b, n)) {
				t.Fatalf("%v, %v: %d in Not(a, And(a, b)): %v", a, b, n, Has(rest, n))
			}
		}
		if !slices.Equal(Or(a, a), a) || !slices.Equal(And(a, a), a) || len(Not(a, a)) != 0 {
			t.Fatalf("%v with itself", a)
		}
	}
}

func TestAddAndTakeUndoEachOther(t *testing.T) {
	r := rand.New(rand.NewSource(14))
	for range 1000 {
		l, n := someList(r, r.Intn(30), 100), uint32(r.Intn(100))
		with, fresh := Add(l, n)
		if back, ok := Take(with, n); fresh && !slices.Equal(back, l) || !ok {
			t.Fatalf("L2: Take of Add(%v, %d): %v, %v", l, n, back, ok)
		}
		without, had := Take(l, n)
		if back, ok := Add(without, n); had && !slices.Equal(back, l) || !ok {
			t.Fatalf("L2: Add of Take(%v, %d): %v, %v", l, n, back, ok)
		}
	}
}

// guarded: a list with spare room, in which a mark stands.
func guarded(l []uint32) []uint32 {
	room := append(slices.Clone(l), 4, 8, 15, 16)
	return room[:len(l)]
}

// untouched: is a guarded list as it was made, its room too?
func untouched(l []uint32, was []uint32) bool {
	return slices.Equal(l, was) && slices.Equal(l[:len(was)+4][len(was):], []uint32{4, 8, 15, 16})
}

// scribble writes over a list and its spare room, as its owner may.
func scribble[T uint32 | byte](l []T) {
	l = l[:cap(l)]
	for i := range l {
		l[i] = ^l[i]
	}
}

func TestSetsAnswerNewMemory(t *testing.T) {
	calls := map[string]func(a, b []uint32) []uint32{
		"And":     And,
		"Or":      Or,
		"Not":     Not,
		"Add":     func(a, b []uint32) []uint32 { l, _ := Add(a, 2); return l },
		"no Add":  func(a, b []uint32) []uint32 { l, _ := Add(a, 3); return l },
		"Take":    func(a, b []uint32) []uint32 { l, _ := Take(a, 3); return l },
		"no Take": func(a, b []uint32) []uint32 { l, _ := Take(a, 2); return l },
	}
	pairs := [][2][]uint32{
		{{1, 3, 5}, {3, 4, 5}}, {{1, 3, 5}, nil}, {{1, 3, 5}, {}}, {nil, {1, 3, 5}}, {{}, {1, 3, 5}},
		{{1, 3, 5}, {7, 9}}, {{7, 9}, {1, 3, 5}}, {{1, 3, 5}, {1, 3, 5}}, {{3}, {3}}, {{5, 3}, {3}},
	}
	for name, call := range calls {
		for _, c := range pairs {
			a, b := guarded(c[0]), guarded(c[1])
			first, second := call(a, b), call(a, b)
			want := slices.Clone(second)
			scribble(first)
			if !untouched(a, c[0]) || !untouched(b, c[1]) || !slices.Equal(second, want) {
				t.Errorf("P3: %s of %v, %v shares memory", name, c[0], c[1])
			}
			scribble(a)
			scribble(b)
			if !slices.Equal(second, want) {
				t.Errorf("P3: %s of %v, %v keeps what it was given", name, c[0], c[1])
			}
		}
	}
}

// Two lists that lie in one another's memory are two lists all the same.
func TestListsMayOverlap(t *testing.T) {
	all := []uint32{1, 2, 3, 4, 5, 6}
	checkSets(t, all, all)
	checkSets(t, all[:4], all[2:])
	checkSets(t, all[2:], all[:4])
	checkSets(t, all[:3], all[3:])
}

func TestGreatSetsAreCheap(t *testing.T) {
	const count = 2_000_000
	a, b := upTo(count, 2), upTo(count, 3)
	// Both have the multiples of 6 below 2 count.
	const both = (2*count + 5) / 6
	if got := And(a, b); !slices.Equal(got, upTo(both, 6)) {
		t.Errorf("L1: And has %d", len(got))
	}
	if got := len(Or(a, b)); got != 2*count-both {
		t.Errorf("L1: Or has %d", got)
	}
	if got := len(Not(a, b)); got != count-both {
		t.Errorf("L1: Not has %d", got)
	}
	if with, ok := Add(a, 1); !ok || len(with) != count+1 {
		t.Errorf("L2: Add: %d, %v", len(with), ok)
	}
}

// Lists of whatever is ordered are gone through likewise.
func TestJoinOfOtherKinds(t *testing.T) {
	a, b := []string{"", "a", "b"}, []string{"a", "aa"}
	if got := join(a, b, parts{left: true, both: true, right: true}); !slices.Equal(got, []string{"", "a", "aa", "b"}) {
		t.Errorf("join of texts: %q", got)
	}
	nan := math.NaN()
	if got := join([]float64{nan, 1}, []float64{nan, 2}, parts{left: true, right: true}); !slices.Equal(got, []float64{1, 2}) {
		t.Errorf("join of floats: %v", got)
	}
	if rises([]float64{1, nan}) || rises([]float64{nan, nan}) || !rises([]float64{nan, math.Inf(-1), 0}) {
		t.Error("rises of floats")
	}
}
