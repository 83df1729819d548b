package pool

import (
	"bytes"
	"fmt"
	"math"
	"math/rand"
	"reflect"
	"slices"
	"strings"
	"testing"

	"turnkey/api"
)

func made(t *testing.T, slots int) *Pool {
	t.Helper()
	p, e := New(slots)
	if p == nil || e != api.OK {
		t.Fatalf("K1: New(%d): %d", slots, e)
	}
	return p
}

// takes fails if Take does not answer so.
func takes(t *testing.T, p *Pool, owner string, slot int, want api.Errno) {
	t.Helper()
	if got, e := p.Take(owner); got != slot || e != want {
		t.Fatalf("K2: Take(%q): %d, %d; want %d, %d", owner, got, e, slot, want)
	}
}

// holds fails if that does not lie in the slot.
func holds(t *testing.T, p *Pool, slot int, want string) {
	t.Helper()
	if b, e := p.Get(slot); string(b) != want || e != api.OK {
		t.Fatalf("K3: Get(%d): %q, %d; want %q", slot, b, e, want)
	}
}

func TestExamples(t *testing.T) {
	p := made(t, 2)
	takes(t, p, "a", 0, api.OK)
	takes(t, p, "b", 1, api.OK)
	takes(t, p, "a", 0, api.ErrPool)
	if e := p.Put(0, []byte("x")); e != api.OK {
		t.Errorf("K3: Put: %d", e)
	}
	holds(t, p, 0, "x")
	if e := p.Give(0); e != api.OK {
		t.Errorf("K2: Give: %d", e)
	}
	if b, e := p.Get(0); b != nil || e != api.ErrSlot {
		t.Errorf("K3: Get of a free slot: %q, %d", b, e)
	}
	takes(t, p, "b", 0, api.OK)
	holds(t, p, 0, "")
	if e := p.Put(0, make([]byte, 129)); e != api.ErrArg {
		t.Errorf("K3: Put of 129 bytes: %d", e)
	}
	if p.Used("b") != 2 || p.Left() != 0 || p.Drop("b") != 2 || p.Left() != 2 {
		t.Errorf("K4: %d, %d", p.Used("b"), p.Left())
	}
}

func TestNew(t *testing.T) {
	for _, slots := range []int{0, -1, -64, math.MinInt, api.MaxSlots + 1, math.MaxInt32, math.MaxInt} {
		if p, e := New(slots); p != nil || e != api.ErrArg {
			t.Errorf("K1: New(%d): %v, %d", slots, p != nil, e)
		}
	}
	for _, slots := range []int{1, 2, 63, 64, 65, 128, 1000, api.MaxSlots - 1, api.MaxSlots} {
		p := made(t, slots)
		if p.Left() != slots || p.Used("") != 0 || len(p.Slots("")) != 0 || p.Drop("") != 0 {
			t.Errorf("K1: New(%d): %d are free", slots, p.Left())
		}
		for slot := range slots {
			if b, e := p.Get(slot); b != nil || e != api.ErrSlot {
				t.Fatalf("K1: New(%d): the slot %d is not free", slots, slot)
			}
		}
	}
}

// A pool has the numbers from 0 on, so many as it was made with, and no other.
func TestAllAreTaken(t *testing.T) {
	for _, slots := range []int{1, 63, 64, 65, 1000, api.MaxSlots} {
		p := made(t, slots)
		for slot := range slots {
			takes(t, p, "a", slot, api.OK)
		}
		takes(t, p, "a", 0, api.ErrPool)
		takes(t, p, "b", 0, api.ErrPool)
		if p.Left() != 0 || p.Used("a") != slots || p.Used("b") != 0 {
			t.Errorf("K4: %d are free, %d are taken; want %d", p.Left(), p.Used("a"), slots)
		}
		for i, slot := range p.Slots("a") {
			if slot != i {
				t.Fatalf("K4: the %d. slot is %d", i, slot)
			}
		}
		if n := p.Drop("a"); n != slots || p.Left() != slots {
			t.Errorf("K4: Drop: %d, and %d are free; want %d", n, p.Left(), slots)
		}
		takes(t, p, "b", 0, api.OK)
	}
}

func TestTheLeastIsTaken(t *testing.T) {
	r := rand.New(rand.NewSource(3))
	p := made(t, 300)
	for range 300 {
		p.Take(fmt.Sprint(p.Left() % 7))
	}
	for range 50 {
		gone := r.Perm(300)[:1+r.Intn(20)]
		for _, slot := range gone {
			if e := p.Give(slot); e != api.OK {
				t.Fatalf("K2: Give(%d): %d", slot, e)
			}
		}
		slices.Sort(gone)
		for _, slot := range gone {
			takes(t, p, "x", slot, api.OK)
		}
		takes(t, p, "x", 0, api.ErrPool)
	}
}

func TestNoSuchSlot(t *testing.T) {
	p := made(t, 66)
	p.Take("a")
	p.Take("b")
	p.Give(0)
	p.Put(1, []byte("q"))
	for _, slot := range []int{-1, -2, -64, 0, 2, 63, 64, 65, 66, 67, 128, 1 << 16, math.MaxInt, math.MinInt, math.MinInt + 1, 1<<32 + 1} {
		for _, size := range []int{0, 1, 128, 129, 1000} {
			if e := p.Put(slot, make([]byte, size)); e != api.ErrSlot {
				t.Errorf("K3: Put(%d, %d bytes): %d", slot, size, e)
			}
		}
		if b, e := p.Get(slot); b != nil || e != api.ErrSlot {
			t.Errorf("K3: Get(%d): %x, %d", slot, b, e)
		}
		if e := p.Give(slot); e != api.ErrSlot {
			t.Errorf("K2: Give(%d): %d", slot, e)
		}
	}
	if p.Left() != 65 || p.Used("a") != 0 || p.Used("b") != 1 {
		t.Errorf("P2: what was refused changed something: %d free", p.Left())
	}
	holds(t, p, 1, "q")
	takes(t, p, "c", 0, api.OK)
	takes(t, p, "c", 2, api.OK)
}

// A slot that was given is free: it is not given twice, and counted once.
func TestGivenTwice(t *testing.T) {
	p := made(t, 3)
	for range 3 {
		p.Take("a")
	}
	if p.Give(1) != api.OK || p.Give(1) != api.ErrSlot || p.Left() != 1 || p.Used("a") != 2 {
		t.Errorf("K2: %d free, %d taken", p.Left(), p.Used("a"))
	}
	takes(t, p, "b", 1, api.OK)
	takes(t, p, "b", 0, api.ErrPool)
	if p.Drop("a") != 2 || p.Drop("a") != 0 || p.Left() != 2 || !slices.Equal(p.Slots("b"), []int{1}) {
		t.Errorf("K4: %d free, b has %v", p.Left(), p.Slots("b"))
	}
	if p.Give(0) != api.ErrSlot || p.Give(2) != api.ErrSlot {
		t.Error("K4: what was dropped is not free")
	}
}

// One who takes a slot that another one gave has it, and the other one does not.
func TestASlotHasOneOwner(t *testing.T) {
	p := made(t, 1)
	p.Take("a")
	p.Give(0)
	p.Take("b")
	if p.Used("a") != 0 || len(p.Slots("a")) != 0 || p.Drop("a") != 0 || p.Used("b") != 1 || p.Left() != 0 {
		t.Errorf("K2: a has %v, b has %v", p.Slots("a"), p.Slots("b"))
	}
	takes(t, p, "a", 0, api.ErrPool)
}

func TestPutIsAllThatLiesThere(t *testing.T) {
	p := made(t, 2)
	p.Take("a")
	p.Take("a")
	long, short := strings.Repeat("z", 128), "ab"
	for _, s := range []string{long, short, long, "", long[:127], "\x00", short} {
		if e := p.Put(0, []byte(s)); e != api.OK {
			t.Fatalf("K3: Put of %d bytes: %d", len(s), e)
		}
		holds(t, p, 0, s)
		holds(t, p, 1, "")
		for _, size := range []int{129, 130, 256, 1 << 16} {
			if e := p.Put(0, make([]byte, size)); e != api.ErrArg {
				t.Fatalf("K3: Put of %d bytes: %d", size, e)
			}
			holds(t, p, 0, s)
		}
	}
	if e := p.Put(0, nil); e != api.OK {
		t.Errorf("K3: Put of nil: %d", e)
	}
	holds(t, p, 0, "")
}

// What lay in a slot does not come back, whichever way it went, nor in the spare room of an answer.
func TestNothingComesBack(t *testing.T) {
	secret := []byte(strings.Repeat("secret!!", 16))
	for _, leave := range []func(*Pool){
		func(p *Pool) { p.Give(0) },
		func(p *Pool) { p.Drop("a") },
	} {
		for _, next := range []string{"a", "b"} {
			p := made(t, 1)
			p.Take("a")
			p.Put(0, secret)
			leave(p)
			takes(t, p, next, 0, api.OK)
			holds(t, p, 0, "")
			for _, b := range []string{"", "x", "ab"} {
				p.Put(0, []byte(b))
				got, _ := p.Get(0)
				if string(got) != b || bytes.Contains(got[:cap(got)], []byte("s")) {
					t.Errorf("K3: what lay there comes back: %q", got[:cap(got)])
				}
			}
		}
	}
}

func TestBytesAreNobodyElses(t *testing.T) {
	p := made(t, 2)
	p.Take("a")
	p.Take("a")
	room := []byte("0123456789")
	b := room[2:5:8]
	p.Put(0, b)
	p.Put(1, b)
	if string(room) != "0123456789" {
		t.Errorf("P3: what is handed in is written into: %q", room)
	}
	scribble(room)
	holds(t, p, 0, "234")
	holds(t, p, 1, "234")
	one, _ := p.Get(0)
	two, _ := p.Get(0)
	scribble(one[:cap(one)])
	if string(two) != "234" {
		t.Errorf("P3: two answers share memory: %q", two)
	}
	holds(t, p, 0, "234")
	p.Put(0, []byte("zzz"))
	if string(two) != "234" {
		t.Errorf("P3: what was answered is written into: %q", two)
	}
}

// scribble writes over bytes, as their owner may.
func scribble(b []byte) {
	for i := range b {
		b[i] ^= 0xff
	}
}

func TestListsAreNobodyElses(t *testing.T) {
	p := made(t, 10)
	for range 5 {
		p.Take("a")
	}
	one, two := p.Slots("a"), p.Slots("a")
	all := one[:cap(one)]
	for i := range all {
		all[i] = 9
	}
	want := []int{0, 1, 2, 3, 4}
	if !slices.Equal(two, want) || !slices.Equal(p.Slots("a"), want) {
		t.Errorf("P3: %v, then %v", two, p.Slots("a"))
	}
	p.Give(1)
	p.Take("b")
	if !slices.Equal(two, want) {
		t.Errorf("P3: what was answered is written into: %v", two)
	}
}

func TestOwnersAreAnyTexts(t *testing.T) {
	owners := []string{"", " ", "a", "A", "a ", "a\x00", "\x00", "\xff", "\xff\xfe", "ä", strings.Repeat("a", 100000)}
	p := made(t, len(owners))
	for slot, owner := range owners {
		takes(t, p, owner, slot, api.OK)
	}
	for slot, owner := range owners {
		if l := p.Slots(owner); p.Used(owner) != 1 || !slices.Equal(l, []int{slot}) {
			t.Errorf("K4: the owner %d has %v", slot, l)
		}
	}
	for slot, owner := range owners {
		if n := p.Drop(owner); n != 1 || p.Left() != slot+1 {
			t.Errorf("K4: Drop of the owner %d: %d, %d are free", slot, n, p.Left())
		}
	}
}

// Who has nothing is asked of, dropped, and leaves no trace: what is kept is of those who have slots.
func TestOwnersWithoutSlotsAreNotKept(t *testing.T) {
	p := made(t, 2)
	p.Take("stays")
	for i := range 1000 {
		name := fmt.Sprint(i)
		takes(t, p, name, 1, api.OK)
		takes(t, p, name+"!", 0, api.ErrPool)
		if i%2 == 0 {
			p.Give(1)
		} else {
			p.Drop(name)
		}
		if len(p.owners) != 1 || len(p.taken) != 1 || p.Left() != 1 {
			t.Fatalf("%d owners, %d slots are kept", len(p.owners), len(p.taken))
		}
		if p.Used(name) != 0 || len(p.Slots(name)) != 0 || p.Drop(name) != 0 || len(p.owners) != 1 {
			t.Fatalf("K4: %s has slots", name)
		}
	}
}

func TestPoolsAreApart(t *testing.T) {
	one, two := made(t, 3), made(t, 3)
	one.Take("a")
	one.Put(0, []byte("one"))
	if two.Left() != 3 || two.Used("a") != 0 {
		t.Errorf("P4: the other pool has %d free", two.Left())
	}
	takes(t, two, "a", 0, api.OK)
	two.Put(0, []byte("two"))
	holds(t, one, 0, "one")
	two.Drop("a")
	holds(t, one, 0, "one")
	if one.Left() != 2 || two.Left() != 3 {
		t.Errorf("P4: %d and %d are free", one.Left(), two.Left())
	}
}

// The greatest pool, all but full, is not gone through slot by slot for each call.
func TestGreatPoolIsCheap(t *testing.T) {
	p := made(t, api.MaxSlots)
	for slot := range api.MaxSlots {
		p.Take(fmt.Sprint(slot % 1000))
	}
	last := api.MaxSlots - 1
	for range 100000 {
		p.Give(last)
		p.Give(0)
		takes(t, p, "x", 0, api.OK)
		takes(t, p, "y", last, api.OK)
		takes(t, p, "z", 0, api.ErrPool)
		if p.Used("x") != 1 || p.Used("y") != 1 || p.Drop("z") != 0 || p.Slots("x")[0] != 0 {
			t.Fatal("K4: x and y have not got what they took")
		}
	}
}

func TestCallsAreAsGiven(t *testing.T) {
	var names []string
	for m := range reflect.TypeFor[*Pool]().Methods() {
		names = append(names, m.Name)
	}
	if want := []string{"Drop", "Get", "Give", "Left", "Put", "Slots", "Take", "Used"}; !slices.Equal(names, want) {
		t.Errorf("the calls of a pool: %v; want %v", names, want)
	}
	for f := range reflect.TypeFor[Pool]().Fields() {
		if f.IsExported() {
			t.Errorf("a pool gives out %s", f.Name)
		}
	}
}
