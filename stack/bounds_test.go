package stack

import (
	"bytes"
	"math"
	"math/rand"
	"slices"
	"testing"

	"turnkey/api"
)

// samplesOf is how many samples t has, as k is told.
func samplesOf(t *testing.T, s *Stack) (series, samples int) {
	t.Helper()
	l := does(t, s, queries("k", "t", math.MinInt64, math.MaxInt64)).Series
	for _, one := range l {
		samples += len(one.Samples)
	}
	return len(l), samples
}

// P11: limits are never passed, whatever the clock and the power do; what lasted, though it was not answered, counts.
func TestBounds(t *testing.T) {
	refused := map[api.Errno]int{}
	for seed := range int64(25) {
		r := rand.New(rand.NewSource(seed))
		maxSeries, maxSamples := 1+r.Intn(5), 1+r.Intn(9)
		s := newSide(t, r, pick(r, 1024, 1500, 4096), pick(r, 3, 9, 100))
		slots := s.stack.Free()
		wants(t, s.stack, makes("t", maxSeries, maxSamples), api.OK)
		wants(t, s.stack, grants("t", "k", 15), api.OK)
		window, written, had := int64(0), 0, 0
		for step := range int64(120) {
			if r.Intn(3) == 0 {
				s.now = pick(r, 0, s.now, s.now+60000, step*1000)
				s.stack.Tick(s.now)
			}
			raw := encoded(t, writes("k", "t", someWrites(r, 3*step)...))
			switch r.Intn(6) {
			case 0:
				s.inFlight(raw, true)
			case 1:
				s.inFlight(raw, false)
			default:
				if answer := s.stack.Do(raw); len(answer) == 2 && answer[0] != 0 {
					refused[api.Errno(answer[0]&0x7f)+api.Errno(answer[1])<<7]++
				}
			}
			series, samples := samplesOf(t, s.stack)
			if s.now/60000 > window && samples > had {
				window, written = s.now/60000, 0
			}
			written += samples - had
			had = samples
			if series > maxSeries || written > maxSamples {
				t.Fatalf("P11: %d series of %d; %d samples of %d in the window %d", series, maxSeries, written, maxSamples, window)
			}
			used := s.stack.Slots("t") + s.stack.Slots("u") + s.stack.Slots("v") + s.stack.Slots("tt")
			if used+s.stack.Free() != slots || s.stack.Free() < 0 || s.stack.Bytes() > s.stack.log.Cap() {
				t.Fatalf("P11: %d slots of %d are used, %d free; %d bytes", used, slots, s.stack.Free(), s.stack.Bytes())
			}
			s.noise(2)
		}
	}
	for _, e := range []api.Errno{api.ErrSeries, api.ErrQuota, api.ErrStale} {
		if refused[e] < 20 {
			t.Errorf("the error %d was answered %d times alone", e, refused[e])
		}
	}
}

// P11: how many slots a tenant has hangs on what it wrote, not on how it came, nor on falls and others.
func TestSlotsAreAFunctionOfWhatWasWritten(t *testing.T) {
	for seed := range int64(10) {
		world := someWorld(rand.New(rand.NewSource(seed)))
		want := plainTenant{series: world}.used()
		for other := range int64(3) {
			s := newSide(t, rand.New(rand.NewSource(seed*100+other)), 100000, 1000)
			s.lives(world, nil)
			if n := s.stack.Slots("t"); n != want {
				t.Fatalf("P11: Slots is %d; want %d", n, want)
			}
		}
	}
}

// P12: two stacks alike, but that one had a tenant t, which is removed: from then on nobody can tell them apart.
func TestGone(t *testing.T) {
	for seed := range int64(30) {
		r := rand.New(rand.NewSource(seed))
		cap, slots := pick(r, 1024, 2000, 9000), pick(r, 4, 30, 100)
		had, never := newSide(t, r, cap, slots), newSide(t, r, cap, slots)
		both := func(raw []byte) {
			t.Helper()
			one, other := had.stack.Do(raw), never.stack.Do(raw)
			if !bytes.Equal(one, other) {
				t.Fatalf("P12: seed %d: %x is answered %x and %x", seed, raw, one, other)
			}
		}
		both(encoded(t, makes("u", 3, 30)))
		both(encoded(t, grants("u", "k", 15)))
		both(encoded(t, writes("k", "u", a("x", 1))))
		for range 1 + r.Intn(3) {
			wants(t, had.stack, makes("t", 50, 500), api.OK)
			wants(t, had.stack, grants("t", "k", 15), api.OK)
			for step := range int64(r.Intn(30)) {
				had.stack.Do(encoded(t, writes("k", "t", someWrites(r, 3*step)...)))
				had.stack.Do(encoded(t, grants("t", pick(r, "e", "w", "g1", "g2"), 15)))
			}
			had.stack.Tick(60000 * int64(r.Intn(5)))
			had.stack.Tick(0)
			gone := encoded(t, pick(r, drops("t"), by("k", api.KindRemove, "t")))
			if r.Intn(2) == 0 {
				had.inFlight(gone, true)
			} else if b := had.stack.Do(gone); !bytes.Equal(b, []byte{0, 0}) {
				t.Fatalf("P12: a removal is answered %x", b)
			}
		}
		if had.stack.Free() != never.stack.Free() || had.stack.Slots("t") != 0 || !slices.Equal(had.stack.Tenants(), []string{"u"}) || !bytes.Equal(had.stack.door.Save(), never.stack.door.Save()) {
			t.Fatalf("P12: something of t is left: %x", had.stack.door.Save())
		}
		for _, token := range []string{"k", "e", "w", "g1"} {
			wants(t, had.stack, counts(token, "t"), api.ErrToken)
		}
		if r.Intn(2) == 0 {
			both(encoded(t, makes("t", 4, 40)))
			both(encoded(t, grants("t", "k", 15)))
			both(encoded(t, writes("k", "t", a("x", -5))))
		}
		for step := range int64(60) {
			both(encoded(t, someRequest(r, pick(r, "t", "t", "u", "v"), step)))
			if r.Intn(10) == 0 {
				had.falls(0)
			}
			if had.stack.Free() != never.stack.Free() || had.stack.Slots("t") != never.stack.Slots("t") {
				t.Fatalf("P12: seed %d: Free is %d and %d", seed, had.stack.Free(), never.stack.Free())
			}
		}
	}
}
