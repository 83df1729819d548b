package pool

import (
	"fmt"
	"math/rand"
	"slices"
	"testing"

	"turnkey/api"
)

// plain is a pool by the chapter's words: a list of slots, gone through from its beginning each time.
type plain []place

type place struct {
	taken bool
	owner string
	data  []byte
}

func (p plain) has(slot int) bool {
	return slot >= 0 && slot < len(p) && p[slot].taken
}

func (p plain) take(owner string) (int, api.Errno) {
	for i := range p {
		if !p[i].taken {
			p[i] = place{taken: true, owner: owner}
			return i, api.OK
		}
	}
	return 0, api.ErrPool
}

func (p plain) give(slot int) api.Errno {
	if !p.has(slot) {
		return api.ErrSlot
	}
	p[slot] = place{}
	return api.OK
}

func (p plain) put(slot int, b []byte) api.Errno {
	if !p.has(slot) {
		return api.ErrSlot
	}
	if len(b) > 128 {
		return api.ErrArg
	}
	p[slot].data = slices.Clone(b)
	return api.OK
}

func (p plain) slots(owner string) []int {
	var l []int
	for i := range p {
		if p[i].taken && p[i].owner == owner {
			l = append(l, i)
		}
	}
	return l
}

func (p plain) drop(owner string) int {
	l := p.slots(owner)
	for _, i := range l {
		p[i] = place{}
	}
	return len(l)
}

func (p plain) left() int {
	n := 0
	for i := range p {
		if !p[i].taken {
			n++
		}
	}
	return n
}

// pair is a pool, and what the words make of it.
type pair struct {
	pool   *Pool
	plain  plain
	owners []string // all that are asked of
}

func newPair(t *testing.T, slots int, owners []string) pair {
	t.Helper()
	p, e := New(slots)
	if p == nil || e != api.OK {
		t.Fatalf("K1: New(%d): %v", slots, e)
	}
	return pair{p, make(plain, slots), owners}
}

func (a pair) take(t *testing.T, owner string) {
	t.Helper()
	want, wantE := a.plain.take(owner)
	if got, e := a.pool.Take(owner); got != want || e != wantE {
		t.Fatalf("K2: Take(%q): %d, %d; want %d, %d", owner, got, e, want, wantE)
	}
}

func (a pair) give(t *testing.T, slot int) {
	t.Helper()
	want := a.plain.give(slot)
	if e := a.pool.Give(slot); e != want {
		t.Fatalf("K2: Give(%d): %d; want %d", slot, e, want)
	}
}

func (a pair) put(t *testing.T, slot int, b []byte) {
	t.Helper()
	want := a.plain.put(slot, b)
	if e := a.pool.Put(slot, b); e != want {
		t.Fatalf("K3: Put(%d, %d bytes): %d; want %d", slot, len(b), e, want)
	}
}

func (a pair) drop(t *testing.T, owner string) {
	t.Helper()
	want := a.plain.drop(owner)
	if got := a.pool.Drop(owner); got != want {
		t.Fatalf("K4: Drop(%q): %d; want %d", owner, got, want)
	}
}

// get holds one slot against the words.
func (a pair) get(t *testing.T, slot int) {
	t.Helper()
	b, e := a.pool.Get(slot)
	if !a.plain.has(slot) {
		if b != nil || e != api.ErrSlot {
			t.Fatalf("K3: Get(%d): %x, %d; want ErrSlot", slot, b, e)
		}
		return
	}
	if want := a.plain[slot].data; string(b) != string(want) || e != api.OK {
		t.Fatalf("K3: Get(%d): %x, %d; want %x", slot, b, e, want)
	}
}

// agree holds all that a pool tells against the words, and asks twice, as asking changes nothing.
func (a pair) agree(t *testing.T) {
	t.Helper()
	for range 2 {
		for slot := -1; slot <= len(a.plain); slot++ {
			a.get(t, slot)
		}
		all := a.pool.Left()
		if all != a.plain.left() {
			t.Fatalf("K4: Left: %d; want %d", all, a.plain.left())
		}
		for _, owner := range a.owners {
			want := a.plain.slots(owner)
			if got := a.pool.Slots(owner); !slices.Equal(got, want) || a.pool.Used(owner) != len(want) {
				t.Fatalf("K4: of %q: %d, %v; want %v", owner, a.pool.Used(owner), got, want)
			}
			all += len(want)
		}
		if all != len(a.plain) {
			t.Fatalf("K4: free ones and taken ones are %d; want %d", all, len(a.plain))
		}
	}
}

// All runs of five steps over small pools, each step one of all that may be done.
func TestAllShortRunsByTheWords(t *testing.T) {
	owners := []string{"a", ""}
	for slots := 1; slots <= 2; slots++ {
		steps := allSteps(slots, owners)
		runs := 1
		for range 5 {
			runs *= len(steps)
		}
		for run := range runs {
			a := newPair(t, slots, owners)
			for range 5 {
				steps[run%len(steps)](t, a)
				run /= len(steps)
			}
			a.agree(t)
		}
	}
}

func allSteps(slots int, owners []string) []func(*testing.T, pair) {
	var steps []func(*testing.T, pair)
	for _, owner := range owners {
		steps = append(steps,
			func(t *testing.T, a pair) { a.take(t, owner) },
			func(t *testing.T, a pair) { a.drop(t, owner) })
	}
	for slot := range slots {
		steps = append(steps,
			func(t *testing.T, a pair) { a.give(t, slot) },
			func(t *testing.T, a pair) { a.put(t, slot, []byte{byte(slot), 7}) })
	}
	return steps
}

// Long runs over pools on both sides of a word's end.
func TestLongRunsByTheWords(t *testing.T) {
	r := rand.New(rand.NewSource(1))
	owners := []string{"a", "b", "", "a\x00", "\xff\xfe", "a long name of an owner, which may be any text"}
	for _, slots := range []int{1, 2, 3, 10, 63, 64, 65, 127, 128, 129, 200} {
		a := newPair(t, slots, owners)
		full := 0
		for step := range 3000 {
			a.someStep(t, r, step%1000)
			if a.pool.Left() == 0 {
				full++
			}
			if slots < 20 || step%20 == 0 {
				a.agree(t)
			}
		}
		a.agree(t)
		if full == 0 {
			t.Errorf("a pool of %d was never full", slots)
		}
	}
}

// someStep takes more than it gives at first, so that the pool is full at times, and empty at others.
func (a pair) someStep(t *testing.T, r *rand.Rand, step int) {
	t.Helper()
	slot := r.Intn(len(a.plain)+4) - 2
	owner := a.owners[r.Intn(len(a.owners))]
	kind := r.Intn(20)
	switch {
	case kind < 8 && step < 600 || kind < 3:
		a.take(t, owner)
	case kind < 9:
		a.give(t, slot)
	case kind == 9 && r.Intn(10) == 0:
		a.drop(t, owner)
	case kind < 12:
		b := make([]byte, r.Intn(140))
		r.Read(b)
		a.put(t, slot, b)
	case kind < 14:
		a.get(t, slot)
	default:
		a.take(t, owner)
	}
}

// What one owner does leaves all that is told of the others as it was.
func TestOwnersLeaveEachOtherAlone(t *testing.T) {
	r := rand.New(rand.NewSource(2))
	for range 200 {
		a := newPair(t, 70, []string{"a", "b", "c"})
		for step := range 150 {
			a.someStep(t, r, step)
		}
		was := toldOf(a.pool, "b") + toldOf(a.pool, "c")
		for _, slot := range a.pool.Slots("a") {
			if e := a.pool.Put(slot, []byte("other")); e != api.OK {
				t.Fatalf("K3: Put: %d", e)
			}
		}
		if l := a.pool.Slots("a"); len(l) > 0 {
			a.pool.Give(l[r.Intn(len(l))])
		}
		a.pool.Take("a")
		a.pool.Drop("a")
		a.pool.Take("a")
		if is := toldOf(a.pool, "b") + toldOf(a.pool, "c"); is != was {
			t.Fatalf("K4: of the others is told\n%s\nahead of it\n%s", is, was)
		}
	}
}

// toldOf is all that a pool tells of an owner.
func toldOf(p *Pool, owner string) string {
	l := p.Slots(owner)
	s := fmt.Sprintln(owner, p.Used(owner), l)
	for _, slot := range l {
		b, e := p.Get(slot)
		s += fmt.Sprintf("%d: %x, %d\n", slot, b, e)
	}
	return s
}
