package stack

import (
	"bytes"
	"fmt"
	"math/rand"
	"slices"
	"testing"

	"turnkey/api"
	"turnkey/disk"
	"turnkey/label"
	"turnkey/match"
	"turnkey/wire"
)

// side is one of two stacks, with a life of its own.
type side struct {
	t     *testing.T
	r     *rand.Rand
	disk  *disk.Disk
	stack *Stack
	now   int64
	clock int64
}

func newSide(t *testing.T, r *rand.Rand, cap, slots int) *side {
	s := &side{t: t, r: r, disk: formatted(t, cap, slots)}
	s.stack = opened(t, s.disk, 0)
	return s
}

func (s *side) falls(keep int) {
	s.t.Helper()
	s.disk.Crash([]int{keep, keep})
	s.opens()
}

func (s *side) opens() {
	s.t.Helper()
	s.disk.Restart()
	s.stack = opened(s.t, s.disk, s.now)
}

// noise is what comes to others than t, and falls between.
func (s *side) noise(most int) {
	s.t.Helper()
	for range s.r.Intn(most) {
		s.clock += int64(s.r.Intn(4))
		name := pick(s.r, "u", "v", "tt")
		switch s.r.Intn(12) {
		case 0:
			s.falls(s.r.Intn(2000))
		case 1:
			s.disk.Fuse(s.r.Intn(5), []int{s.r.Intn(1000), s.r.Intn(1000)})
		case 2:
			s.stack.Do(encoded(s.t, makes(name, 100, 1000)))
			s.stack.Do(encoded(s.t, grants(name, "k", 15)))
		}
		s.stack.Do(encoded(s.t, someRequest(s.r, name, s.clock)))
		if s.stack.Bytes() == 0 {
			s.opens()
		}
	}
	// A fuse that is left is not the tenant's.
	s.disk.Restart()
}

// inFlight lets the power fail in a request, which lasts, or does not, whichever way it is made to last.
func (s *side) inFlight(raw []byte, lasts bool) []byte {
	s.t.Helper()
	if lasts {
		s.disk.Fuse(1, []int{1 << 24, 1 << 24})
	} else {
		s.disk.Fuse(0, nil)
	}
	answer := s.stack.Do(raw)
	s.falls(0)
	return answer
}

func isFull(answer []byte) bool {
	r, e := wire.Read(answer)
	return e == api.OK && (r.Err == api.ErrPool || r.Err == api.ErrLog)
}

// P7: what comes to t comes to both alike, and all else as it likes.
func TestApart(t *testing.T) {
	full, whole, asked := 0, 0, 0
	for seed := range int64(60) {
		r := rand.New(rand.NewSource(seed))
		var sides [2]*side
		for i := range sides {
			sides[i] = newSide(t, rand.New(rand.NewSource(1000*seed+int64(i))), pick(r, 2000, 20000, 100000), pick(r, 20, 100, 1000))
		}
		ended := false
		first := []api.Request{makes("t", pick(r, 3, 50), pick(r, 10, 100)), grants("t", "k", 15), grants("t", "e", 7, someMatchers(r)...)}
		for step := 0; step < 150 && !ended; step++ {
			q := someRequest(r, "t", int64(step))
			q.Tenant = "t"
			if step < len(first) {
				q = first[step]
			}
			raw, way, lasts, tick := encoded(t, q), r.Intn(20), r.Intn(2) == 0, int64(r.Intn(4))*60000
			var answers [2][]byte
			for i, s := range sides {
				s.noise(4)
				switch {
				case way == 0:
					answers[i] = s.inFlight(raw, lasts)
				case way == 1:
					s.falls(0)
				case way == 2:
					s.now = tick
					s.stack.Tick(tick)
				default:
					answers[i] = s.stack.Do(raw)
				}
			}
			if isFull(answers[0]) || isFull(answers[1]) {
				ended = true
				full++
			} else if !bytes.Equal(answers[0], answers[1]) {
				t.Fatalf("P7: seed %d, step %d: %v is answered %x and %x", seed, step, q, answers[0], answers[1])
			}
			asked++
		}
		if !ended {
			whole++
		}
	}
	if full < 5 || whole < 5 || asked < 2000 {
		t.Errorf("%d pairs were full, %d were not; %d answers", full, whole, asked)
	}
}

// someWorld is series, no set of labels twice.
func someWorld(r *rand.Rand) []api.Series {
	var out []api.Series
	for range 15 {
		l := someLabels(r)
		if label.Right(l) != api.OK || slices.ContainsFunc(out, func(s api.Series) bool { return label.Cmp(s.Labels, l) == 0 }) {
			continue
		}
		out = append(out, wide(r, l, int64(r.Intn(20)), 1+r.Intn(12)))
	}
	return out
}

// lives lets a world come to t, piece by piece, in some order, between other things.
func (s *side) lives(world []api.Series, policy []api.Matcher) {
	s.t.Helper()
	for _, q := range []api.Request{makes("t", 100+s.r.Intn(900), 10000), grants("t", "w", 1), grants("t", "e", 15, policy...)} {
		wants(s.t, s.stack, q, api.OK)
	}
	rest := make([]api.Series, len(world))
	for i, at := range s.r.Perm(len(world)) {
		rest[i] = world[at]
	}
	for len(rest) > 0 {
		at := s.r.Intn(len(rest))
		count := 1 + s.r.Intn(len(rest[at].Samples))
		raw := encoded(s.t, writes("w", "t", api.Series{Labels: rest[at].Labels, Samples: rest[at].Samples[:count]}))
		switch s.r.Intn(4) {
		case 0:
			s.inFlight(raw, true)
		case 1:
			s.inFlight(raw, false)
			s.stack.Do(raw)
		default:
			s.stack.Do(raw)
		}
		if rest[at].Samples = rest[at].Samples[count:]; len(rest[at].Samples) == 0 {
			rest = slices.Delete(rest, at, at+1)
		}
		s.stack.Do(encoded(s.t, grants("t", fmt.Sprint("m", s.r.Intn(9)), 1+s.r.Intn(15))))
		s.now = int64(s.r.Intn(200000))
		s.stack.Tick(s.now)
		s.noise(3)
	}
}

// P9, P10: two stacks that agree on what the policy of e shows, and on nothing else.
func TestConfined(t *testing.T) {
	unlike, told := 0, 0
	for seed := range int64(30) {
		r := rand.New(rand.NewSource(seed))
		policy := someMatchers(r)
		set, e := match.New(policy)
		if e != api.OK {
			continue
		}
		seen := held(policy, someWorld(r))
		var sides [2]*side
		var worlds [2][]api.Series
		for i := range sides {
			sides[i] = newSide(t, rand.New(rand.NewSource(1000*seed+int64(i))), pick(r, 50000, 100000), pick(r, 500, 1000))
			hidden := slices.DeleteFunc(someWorld(sides[i].r), func(s api.Series) bool { return set.Holds(s.Labels) })
			worlds[i] = slices.Concat(seen, hidden)
			sides[i].lives(worlds[i], policy)
		}
		if !bytes.Equal(sides[0].stack.door.Save(), sides[1].stack.door.Save()) {
			unlike++
		}
		for range 150 {
			q := someRequest(r, "t", int64(r.Intn(1<<42)))
			if q.Kind < api.KindQuery || q.Kind > api.KindValues {
				continue
			}
			q.Tenant, q.Token = "t", []byte("e")
			one, other := sides[0].stack.Do(encoded(t, q)), sides[1].stack.Do(encoded(t, q))
			if want := answerOf(question(q, held(policy, worlds[0]))); !bytes.Equal(one, other) || !bytes.Equal(one, want) {
				t.Fatalf("P9, P10: by the policy %v %v is answered %x and %x; want %x", policy, q, one, other, want)
			}
			told++
		}
	}
	if unlike < 15 || told < 500 {
		t.Errorf("%d pairs were unlike, %d questions", unlike, told)
	}
}
