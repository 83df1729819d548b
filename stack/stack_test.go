package stack

import (
	"bytes"
	"encoding/hex"
	"fmt"
	"math"
	"slices"
	"testing"

	"turnkey/api"
	"turnkey/disk"
	"turnkey/wire"
)

func formatted(t *testing.T, cap, slots int) *disk.Disk {
	t.Helper()
	d, _ := disk.New(2)
	if e := Format(d, cap, slots); e != api.OK {
		t.Fatalf("U1: Format: %d", e)
	}
	return d
}

func opened(t *testing.T, d *disk.Disk, now int64) *Stack {
	t.Helper()
	s, e := Open(d, []byte("op"), now)
	if e != api.OK || s == nil {
		t.Fatalf("U1: Open: %d", e)
	}
	return s
}

// reopened is the stack behind a fall that keeps nothing.
func reopened(t *testing.T, d *disk.Disk, now int64) *Stack {
	t.Helper()
	d.Crash(nil)
	d.Restart()
	return opened(t, d, now)
}

func fileOf(d *disk.Disk, f int) []byte {
	b, _ := d.Read(f, 0, d.Size(f))
	return b
}

// does is what a stack answers.
func does(t *testing.T, s *Stack, q api.Request) api.Response {
	t.Helper()
	answer := s.Do(encoded(t, q))
	r, e := wire.Read(answer)
	if e != api.OK {
		t.Fatalf("U2: what is answered to %v is no answer: %x", q, answer)
	}
	return r
}

// wants fails unless a request is answered by this error, or by OK.
func wants(t *testing.T, s *Stack, q api.Request, want api.Errno) {
	t.Helper()
	if r := does(t, s, q); r.Err != want {
		t.Fatalf("U2: %v is answered %d; want %d", q, r.Err, want)
	}
}

func wantsCount(t *testing.T, s *Stack, q api.Request, want int) {
	t.Helper()
	if r := does(t, s, q); r.Err != api.OK || r.Number != want {
		t.Fatalf("U2: %v is answered %v; want the number %d", q, r, want)
	}
}

// begun is a stack with one tenant, t, of whom k may all.
func begun(t *testing.T, cap, slots, series, samples int) (*disk.Disk, *Stack) {
	t.Helper()
	d := formatted(t, cap, slots)
	s := opened(t, d, 0)
	wants(t, s, makes("t", series, samples), api.OK)
	wants(t, s, grants("t", "k", 15), api.OK)
	return d, s
}

func isDead(s *Stack) bool {
	return s.Do([]byte("\x04\x01t\x01k\x00")) == nil && s.Do(nil) == nil && s.Tick(1) == api.ErrDead && s.Bytes() == 0 && s.Free() == 0 && s.Slots("t") == 0 && len(s.Tenants()) == 0
}

func TestExamples(t *testing.T) {
	d := formatted(t, 4096, 2)
	s := opened(t, d, 0)
	if s.Bytes() != 34 || s.Free() != 2 || len(s.Tenants()) != 0 {
		t.Errorf("U4: a new one: %d, %d, %q", s.Bytes(), s.Free(), s.Tenants())
	}
	raw := encoded(t, makes("t", 10, 100))
	if b := s.Do(raw); !bytes.Equal(b, []byte{0, 0}) {
		t.Errorf("U2: Make: %x", b)
	}
	n := s.Bytes()
	if n != 34+9+5 {
		t.Errorf("U4: Bytes: %d", n)
	}
	if b := s.Do(raw); hex.EncodeToString(b) != "a301" {
		t.Errorf("U2: Make again: %x", b)
	}
	q := makes("u", 10, 100)
	q.Token = []byte("oq")
	if b := s.Do(encoded(t, q)); hex.EncodeToString(b) != "a001" || s.Bytes() != n || d.Size(0) != n || d.Size(1) != 0 {
		t.Errorf("U2: Make by another token: %x; Bytes: %d", b, s.Bytes())
	}
	blank, _ := disk.New(2)
	if s, e := Open(blank, []byte("op"), 0); s != nil || e != api.ErrFormat {
		t.Errorf("U1: Open of a new disk: %d", e)
	}
}

// DOC.md's example 8: 34 and 43 times 23 are 1023.
func TestFullOfTenants(t *testing.T) {
	d := formatted(t, 1024, 4)
	s := opened(t, d, 0)
	name := func(i int) string { return fmt.Sprintf("%016d", i) }
	for i := range 43 {
		wants(t, s, makes(name(i), 1, 1), api.OK)
	}
	for range 3 {
		was := [2][]byte{fileOf(d, 0), fileOf(d, 1)}
		wants(t, s, makes(name(43), 1, 1), api.ErrLog)
		wants(t, s, grants(name(0), "k", 15), api.ErrLog)
		if !bytes.Equal(fileOf(d, 0), was[0]) || !bytes.Equal(fileOf(d, 1), was[1]) || len(s.Tenants()) != 43 || s.Bytes() > 1024 {
			t.Fatalf("U2: ErrLog changes something")
		}
		s = reopened(t, d, 0)
	}
	wants(t, s, drops(name(7)), api.OK)
	wants(t, s, makes(name(43), 1, 1), api.OK)
	wants(t, s, makes(name(7), 1, 1), api.ErrLog)
	// 1 byte is left; a name of 16 letters has 23, and one of 1 letter 8.
	wants(t, s, drops(name(8)), api.OK)
	for _, short := range []string{"a", "b", "c"} {
		wants(t, s, makes(short, 1, 1), api.OK)
	}
	wants(t, s, makes("d", 1, 1), api.ErrLog)
	wants(t, s, drops("d"), api.ErrTenant)
}

// A door that weighs just the cap goes; one more byte does not.
func TestFitsToTheByte(t *testing.T) {
	for _, c := range []struct {
		series, samples int
		want            api.Errno
	}{{1, 1, api.OK}, {128, 1, api.OK}, {1, 128, api.OK}, {128, 128, api.ErrLog}, {1, 16384, api.ErrLog}} {
		s := opened(t, formatted(t, 1024, 4), 0)
		for i := range 42 {
			wants(t, s, makes(fmt.Sprintf("%016d", i), 1, 1), api.OK)
		}
		// 34 and 42 times 23 are 1000: 24 are left; this tenant has 23, and a byte more for each limit from 128 on.
		wants(t, s, makes("xxxxxxxxxxxxxxxx", c.series, c.samples), c.want)
		if len(s.Tenants()) != 43 != (c.want == api.ErrLog) {
			t.Errorf("U2: limits %d, %d: %d tenants", c.series, c.samples, len(s.Tenants()))
		}
	}
}

// filledUp makes tenants until none goes any more, not even the smallest one.
func filledUp(t *testing.T, s *Stack, length, limit int) []string {
	t.Helper()
	var made []string
	for ; length > 0; length-- {
		for i := range 60 {
			name := fmt.Sprintf("%0*d", length, i)
			if len(name) > length {
				break
			}
			e := does(t, s, makes(name, limit, 1)).Err
			switch e {
			case api.OK:
				made = append(made, name)
			case api.ErrKnown, api.ErrLog:
			default:
				t.Fatalf("U2: Make of %q: %d", name, e)
			}
		}
	}
	wants(t, s, makes("z", 1000000, 1000000), api.ErrLog)
	return made
}

// A removal and a revocation go, however full the log is, and however the rest of it lies there.
func TestRemovalsAreNeverRefused(t *testing.T) {
	for limit := 1; limit <= 1000000; limit *= 100 {
		for length := 5; length <= 16; length += 3 {
			s := opened(t, formatted(t, 1024, 9), 0)
			wants(t, s, makes("t", limit, 1000), api.OK)
			for i := range 9 {
				wants(t, s, grants("t", fmt.Sprint("k", i), 15), api.OK)
			}
			made := filledUp(t, s, length, limit)
			for i := range 9 {
				wants(t, s, revokes("t", fmt.Sprint("k", i)), api.OK)
				wants(t, s, drops(made[i]), api.OK)
				made = append(made, filledUp(t, s, length, limit)...)
			}
			wants(t, s, drops("t"), api.OK)
			if s.Bytes() > 1024 {
				t.Fatalf("P11: %d bytes", s.Bytes())
			}
		}
	}
}

// DOC.md's example 5.
func TestWindows(t *testing.T) {
	d, s := begun(t, 4096, 4, 1, 2)
	at := int64(0)
	write := func(want api.Errno) {
		t.Helper()
		at++
		wants(t, s, writes("k", "t", a("x", at)), want)
	}
	tick := func(now int64) {
		t.Helper()
		if e := s.Tick(now); e != api.OK {
			t.Fatalf("U3: Tick(%d): %d", now, e)
		}
	}
	write(api.OK)
	write(api.OK)
	write(api.ErrQuota)
	tick(59999)
	write(api.ErrQuota)
	tick(60000)
	write(api.OK)
	tick(0)
	write(api.OK)
	write(api.ErrQuota)
	s = reopened(t, d, 0)
	write(api.ErrQuota)
	s = reopened(t, d, 119999)
	write(api.ErrQuota)
	s = reopened(t, d, 120000)
	write(api.OK)
	tick(api.MaxNow)
	write(api.OK)
	write(api.OK)
	write(api.ErrQuota)
	for _, now := range []int64{-1, api.MaxNow + 1, math.MinInt64, math.MaxInt64} {
		tick(0)
		if e := s.Tick(now); e != api.ErrArg {
			t.Errorf("U3: Tick(%d): %d", now, e)
		}
		write(api.ErrQuota)
	}
	d.Crash(nil)
	for _, now := range []int64{0, -1, api.MaxNow + 1} {
		if e := s.Tick(now); e != api.ErrDead {
			t.Errorf("U3: Tick(%d) of a dead one: %d", now, e)
		}
	}
}

// A Tick that is refused leaves now as it was.
func TestTickRefused(t *testing.T) {
	_, s := begun(t, 4096, 4, 1, 1)
	s.Tick(60000)
	wants(t, s, writes("k", "t", a("x", 1)), api.OK)
	s.Tick(120000)
	s.Tick(-1)
	s.Tick(api.MaxNow + 1)
	wants(t, s, writes("k", "t", a("x", 2)), api.OK)
	wants(t, s, writes("k", "t", a("x", 3)), api.ErrQuota)
}

// DOC.md's example 6.
func TestPoolOfOneSlot(t *testing.T) {
	d, s := begun(t, 4096, 1, 5, 100)
	wants(t, s, makes("u", 5, 100), api.OK)
	wants(t, s, grants("u", "k", 15), api.OK)
	wants(t, s, writes("k", "t", a("x", 1)), api.OK)
	n := s.Bytes()
	wants(t, s, writes("k", "u", a("x", 1)), api.ErrPool)
	if s.Free() != 0 || s.Slots("t") != 1 || s.Slots("u") != 0 || s.Bytes() != n {
		t.Errorf("U4: %d, %d, %d, %d", s.Free(), s.Slots("t"), s.Slots("u"), s.Bytes())
	}
	wants(t, s, drops("t"), api.OK)
	if s.Free() != 1 || s.Slots("t") != 0 {
		t.Errorf("U4: %d, %d", s.Free(), s.Slots("t"))
	}
	wants(t, s, writes("k", "u", a("x", 1)), api.OK)
	for range 2 {
		if s.Free() != 0 || s.Slots("u") != 1 || !slices.Equal(s.Tenants(), []string{"u"}) {
			t.Errorf("U4: %d, %d, %q", s.Free(), s.Slots("u"), s.Tenants())
		}
		s = reopened(t, d, 0)
	}
}

// Whatever lets the power fail, and whether it is back or not: what was open stays dead.
func TestDead(t *testing.T) {
	d, s := begun(t, 4096, 4, 5, 100)
	d.Crash(nil)
	if !isDead(s) {
		t.Error("U2 to U4: it is not dead behind Crash")
	}
	d.Restart()
	if !isDead(s) {
		t.Error("U2 to U4: it is not dead behind Restart")
	}
	other := opened(t, d, 0)
	if !isDead(s) {
		t.Error("U2 to U4: it is not dead behind Open")
	}
	n := other.Bytes()
	if b := s.Do(encoded(t, makes("u", 1, 1))); b != nil || other.Bytes() != n || d.Size(0) != n || len(other.Tenants()) != 1 {
		t.Errorf("U2: a dead one does something: %x", b)
	}
	wantsCount(t, other, counts("k", "t"), 0)
	// Restart alone is no fall.
	d.Restart()
	wants(t, other, makes("u", 1, 1), api.OK)
}
