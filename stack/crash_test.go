package stack

import (
	"fmt"
	"math/rand"
	"testing"

	"turnkey/api"
)

// copied is the same pair, apart from then on.
func (p *pair) copied() *pair {
	list := *p.list
	out := &pair{t: p.t, disk: p.disk.Copy(), list: &list, seen: map[api.Errno]int{}}
	out.real = opened(p.t, out.disk, list.now)
	return out
}

// script has changes of each kind, questions and refusals between them, and makes a small log small again and again.
func script(t *testing.T) [][]byte {
	r := rand.New(rand.NewSource(7))
	l := []api.Request{makes("t", 90, 900), grants("t", "k", 15), makes("u", 3, 900), grants("u", "k", 15, isNot("a", "x")), makes("t", 1, 1)}
	for i := range int64(14) {
		name := pick(r, "t", "t", "u")
		l = append(l, writes("k", name, a("x", i), with(labels("a", "y", "b", "1"), i)), counts("k", name), writes("k", name, a("x", i)), grants(name, fmt.Sprint("g", i), 6))
		l = append(l, writes("k", "t", wide(r, labels("c", fmt.Sprint(i%3)), i<<50, 2)), revokes(name, fmt.Sprint("g", i)), queries("k", name, 0, 99))
	}
	l = append(l, drops("u"), counts("k", "u"), by("k", api.KindRemove, "t"), makes("t", 1, 1))
	var out [][]byte
	for _, q := range l {
		out = append(out, encoded(t, q))
	}
	return out
}

// frameOf is how many bytes the frame has that makes a request last; 0, if there is none.
func (p *pair) frameOf(raw []byte) int {
	c := p.copied()
	c.does(raw)
	if c.list.generation != p.list.generation {
		return len(c.list.file)
	}
	return len(c.list.file) - len(p.list.file)
}

// opensThrough opens it behind a fall; first the power fails in that at some op, if it comes so far.
func (p *pair) opensThrough(ops int, keep [2]int) {
	p.t.Helper()
	p.disk.Restart()
	p.disk.Fuse(ops, keep[:])
	falls := p.disk.Falls()
	if s, e := Open(p.disk, []byte("op"), p.list.now); (e == api.ErrDead) != (p.disk.Falls() > falls) || (s == nil) != (e != api.OK) || e != api.OK && e != api.ErrDead {
		p.t.Fatalf("P8: Open, and a fuse of %d ops: %d", ops, e)
	}
	p.disk.Restart()
	p.list.open(p.list.now)
	for _, what := range []string{"Open", "Open once more"} {
		p.real = opened(p.t, p.disk, p.list.now)
		p.same(what)
	}
}

// P8: at each request of the script, at each op of it, keeping each sort of beginning; and then at each op of Open.
func TestCrashes(t *testing.T) {
	l := script(t)
	p := newPair(t, 1024, 50)
	lasted, gone, dead := 0, 0, 0
	for i, raw := range l {
		n := p.frameOf(raw)
		for ops := range 5 {
			for _, keep := range [][2]int{{0, 0}, {n - 1, n - 1}, {n, n}, {n, 0}, {0, n}, {1 << 20, 1 << 20}} {
				c := p.copied()
				c.fuses(ops, keep)
				was := len(c.list.tenants.save())
				if c.does(raw) == nil {
					dead++
				}
				if len(c.list.tenants.save()) != was {
					lasted++
				} else {
					gone++
				}
				if c.list.dead {
					c.opensThrough(ops%3, keep)
				} else {
					c.crashes(keep)
					c.opensThrough(0, keep)
				}
				for _, next := range l[i:min(i+3, len(l))] {
					c.does(next)
				}
			}
		}
		p.does(raw)
	}
	if p.list.generation < 5 || lasted < 300 || gone < 300 || dead < 300 {
		t.Errorf("%d checkpoints; of those in flight %d lasted, %d were gone; %d times it was dead", p.list.generation-1, lasted, gone, dead)
	}
}

// DOC.md's example 7.
func TestFallInAWrite(t *testing.T) {
	d, s := begun(t, 4096, 4, 5, 100)
	raw := encoded(t, writes("k", "t", a("x", 1)))
	for _, c := range []struct{ keep, want int }{{0, 0}, {20, 0}, {1000, 1}} {
		d.Fuse(1, []int{c.keep, c.keep})
		if b := s.Do(raw); b != nil || !isDead(s) {
			t.Fatalf("U2: the power fails in Sync: %x", b)
		}
		d.Restart()
		for range 2 {
			s = opened(t, d, 0)
			wantsCount(t, s, counts("k", "t"), c.want)
		}
	}
	wants(t, s, writes("k", "t", a("x", 1)), api.ErrStale)
}

// The change in flight has no room in the log, and goes to a new state.
func TestFallInACheckpoint(t *testing.T) {
	d := formatted(t, 1024, 4)
	s := opened(t, d, 0)
	for i := range 30 {
		wants(t, s, makes(fmt.Sprintf("%016d", i), 1, 1), api.OK)
	}
	// The frame of this grant has 9 + 1 + 17 + 32 + 1 + 3 bytes: it goes to the log until they are above the cap.
	raw := encoded(t, grants("0000000000000000", "k", 15))
	for n := 0; s.Bytes()+63 <= 1024; n++ {
		if n > 20 {
			t.Fatalf("U2: the log does not grow: %d bytes", s.Bytes())
		}
		wants(t, s, grants("0000000000000000", "k", 15), api.OK)
		wants(t, s, revokes("0000000000000000", "k"), api.OK)
	}
	live := 0
	if d.Size(0) == 0 {
		live = 1
	}
	weight := 34 + 30*23 + 36
	for ops := range 5 {
		for _, keep := range []int{0, weight - 1, weight, 1 << 20} {
			c := d.Copy()
			s := opened(t, c, 0)
			c.Fuse(ops, []int{keep, keep})
			b := s.Do(raw)
			if (b == nil) != (ops < 4) || isDead(s) != (ops < 4) {
				t.Fatalf("U2: the power fails at the op %d: %x", ops, b)
			}
			c.Restart()
			lasts := ops > 2 || ops > 0 && keep >= weight
			for range 2 {
				s = opened(t, c, 0)
				want := api.ErrToken
				if lasts {
					want = api.OK
				}
				wants(t, s, counts("k", "0000000000000000"), want)
				if lasts && (c.Size(1-live) != weight || c.Size(live) != 0) {
					t.Fatalf("P8: the files have %d and %d bytes", c.Size(0), c.Size(1))
				}
			}
		}
	}
}

// What Open cuts off was loose, or a beginning of a frame: no shorter frame behind it, and no later fall, brings it back.
func TestCutBytesStayAway(t *testing.T) {
	d, s := begun(t, 4096, 9, 9, 900)
	long := encoded(t, writes("k", "t", a("a rather long value of a label", 1, 2, 3, 4, 5, 6, 7, 8, 9)))
	for keep := range 200 {
		n := s.Bytes()
		d.Fuse(1, []int{keep, keep})
		if b := s.Do(long); b != nil {
			t.Fatalf("U2: %x", b)
		}
		d.Restart()
		s = opened(t, d, 0)
		if s.Bytes() != n {
			if keep < 60 {
				t.Fatalf("P8: %d bytes of a frame are a frame", keep)
			}
			wants(t, s, writes("k", "t", a("a rather long value of a label", 9)), api.ErrStale)
			return
		}
		d.Crash([]int{1 << 20, 1 << 20})
		d.Restart()
		s = opened(t, d, 0)
		if s.Bytes() != n {
			t.Fatalf("P8: bytes that were cut off came back")
		}
		wants(t, s, writes("k", "t", a("x", int64(keep))), api.OK)
		d.Crash([]int{1 << 20, 1 << 20})
		d.Restart()
		s = opened(t, d, 0)
		wantsCount(t, s, counts("k", "t"), 1)
	}
	t.Error("P8: a whole frame never stayed")
}
