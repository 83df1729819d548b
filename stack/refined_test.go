package stack

import (
	"bytes"
	"fmt"
	"maps"
	"math/rand"
	"slices"
	"testing"

	"turnkey/api"
	"turnkey/disk"
	"turnkey/wire"
)

// pair is a stack and a plain one, to which all comes alike.
type pair struct {
	t    *testing.T
	disk *disk.Disk
	real *Stack
	list *plain
	seen map[api.Errno]int // how often each error was answered
}

func newPair(t *testing.T, cap, slots int) *pair {
	t.Helper()
	p := &pair{t: t, disk: formatted(t, cap, slots), list: newPlain("op", cap, slots), seen: map[api.Errno]int{}}
	p.real = opened(t, p.disk, 0)
	p.same("a new one")
	return p
}

// same holds all that who runs it sees against the plain one, and the log byte by byte.
func (p *pair) same(what string) {
	p.t.Helper()
	l := p.list
	if l.dead {
		if p.real.Bytes() != 0 || p.real.Free() != 0 || len(p.real.Tenants()) != 0 || slices.ContainsFunc([]string{"t", "u", "v"}, func(name string) bool { return p.real.Slots(name) != 0 }) {
			p.t.Fatalf("U4: behind %s a dead stack tells something", what)
		}
		return
	}
	if n := p.real.Bytes(); n != len(l.file) || n > l.cap {
		p.t.Fatalf("U4, P11: behind %s Bytes is %d; want %d", what, n, len(l.file))
	}
	if b := fileOf(p.disk, l.live); !bytes.Equal(b, l.file) || p.disk.Size(1-l.live) != 0 || p.disk.Lasts(l.live) != len(b) {
		p.t.Fatalf("U2: behind %s the log has %x (%d last), and %d bytes in the other file; want %x", what, b, p.disk.Lasts(l.live), p.disk.Size(1-l.live), l.file)
	}
	if names := p.real.Tenants(); !slices.Equal(names, slices.Sorted(maps.Keys(l.tenants))) {
		p.t.Fatalf("U4: behind %s Tenants is %q", what, names)
	}
	if n := p.real.Free(); n != l.slots-l.tenants.used() {
		p.t.Fatalf("U4, P11: behind %s Free is %d", what, n)
	}
	for _, name := range []string{"t", "u", "v", "nobody", "T?", ""} {
		if n := p.real.Slots(name); n != l.tenants[name].used() {
			p.t.Fatalf("U4, P11: behind %s Slots of %q is %d", what, name, n)
		}
	}
}

// does holds an answer against the plain one's.
func (p *pair) does(raw []byte) []byte {
	p.t.Helper()
	got, want := p.real.Do(raw), p.list.do(raw)
	if !bytes.Equal(got, want) || (got == nil) != (want == nil) {
		p.t.Fatalf("P6: %x is answered %x; want %x", raw, got, want)
	}
	if r, e := wire.Read(got); e == api.OK {
		p.seen[r.Err]++
	}
	p.same(fmt.Sprintf("the request %x", raw))
	return got
}

func (p *pair) ticks(now int64) {
	p.t.Helper()
	want := api.OK
	if p.list.dead {
		want = api.ErrDead
	} else {
		p.list.now = now
	}
	if e := p.real.Tick(now); e != want {
		p.t.Fatalf("U3: Tick(%d): %d; want %d", now, e, want)
	}
}

// fuses sets a fuse.
func (p *pair) fuses(ops int, keep [2]int) {
	p.t.Helper()
	if e := p.disk.Fuse(ops, keep[:]); e != api.OK {
		p.t.Fatalf("Fuse: %d", e)
	}
	p.list.fuse, p.list.keep = ops, keep
}

func (p *pair) crashes(keep [2]int) {
	p.disk.Crash(keep[:])
	p.list.dead = true
	p.same("Crash")
}

// opens it behind a fall; the power may fail in that, some times.
func (p *pair) opens(r *rand.Rand, now int64) {
	p.t.Helper()
	p.disk.Restart()
	for r.Intn(2) == 0 {
		p.disk.Fuse(r.Intn(3), []int{r.Intn(2000), r.Intn(2000)})
		falls := p.disk.Falls()
		s, e := Open(p.disk, []byte("op"), now)
		if fell := p.disk.Falls() != falls; fell != (e == api.ErrDead) || fell != (s == nil) || !fell && e != api.OK {
			p.t.Fatalf("U1: Open: %d; the power has failed: %v", e, fell)
		}
		p.disk.Restart() // also takes a fuse away that is left
	}
	p.list.open(now)
	p.real = opened(p.t, p.disk, now)
	p.same("Open")
	if r.Intn(4) == 0 {
		p.real = opened(p.t, p.disk, now)
		p.same("Open once more")
	}
}

func someKeep(r *rand.Rand) [2]int {
	one := func() int { return pick(r, 0, r.Intn(60), r.Intn(1000), 1<<20, -1) }
	return [2]int{one(), one()}
}

// P6, P8, P11: any requests, ticks and falls.
func TestRefined(t *testing.T) {
	seen := map[api.Errno]int{}
	checkpoints, falls := 0, 0
	for seed := range int64(80) {
		r := rand.New(rand.NewSource(seed))
		p := newPair(t, pick(r, 1024, 1024, 1100, 1500, 4000), pick(r, 1, 6, 1000, 1000, 1000))
		p.seen = seen
		clock := int64(0)
		for step := range 250 {
			clock += int64(r.Intn(4))
			switch r.Intn(30) {
			case 0, 1:
				p.ticks(pick(r, int64(step)*1000, 0, 60000, int64(r.Intn(200000)), api.MaxNow))
			case 2:
				if !p.list.dead {
					p.fuses(r.Intn(6), someKeep(r))
				}
			case 3:
				p.crashes(someKeep(r))
			case 4:
				raw := encoded(t, someRequest(r, "t", clock))
				p.does(often(r, 2, raw[:r.Intn(len(raw))], append(raw, 0), nil, []byte{8}))
			}
			name := pick(r, "t", "t", "u", "v")
			if _, known := p.list.tenants[name]; !known && r.Intn(3) > 0 {
				p.does(encoded(t, makes(name, pick(r, 3, 100), pick(r, 10, 100, 1000))))
				p.does(encoded(t, grants(name, "k", 15)))
			}
			p.does(encoded(t, someRequest(r, name, clock)))
			if p.list.dead && r.Intn(3) > 0 {
				p.opens(r, pick(r, p.list.now, 0, int64(r.Intn(200000))))
			}
		}
		checkpoints += int(p.list.generation) - 1
		falls += p.disk.Falls()
	}
	for _, e := range []api.Errno{api.OK, api.ErrArg, api.ErrLog, api.ErrLabels, api.ErrMatch, api.ErrPool, api.ErrStale, api.ErrSeries, api.ErrQuota, api.ErrLimit, api.ErrToken, api.ErrRight, api.ErrKnown, api.ErrName, api.ErrTenant, api.ErrWire, api.ErrAsk} {
		if seen[e] < 5 {
			t.Errorf("the error %d was answered %d times alone", e, seen[e])
		}
	}
	if checkpoints < 150 || falls < 500 {
		t.Errorf("%d checkpoints, %d falls", checkpoints, falls)
	}
}
