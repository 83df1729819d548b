package stack

import (
	"bytes"
	"fmt"
	"math"
	"slices"
	"strings"
	"testing"

	"turnkey/api"
	"turnkey/disk"
	"turnkey/frame"
	"turnkey/gate"
	"turnkey/wal"
)

// look is all that can be seen of a disk.
func look(d *disk.Disk) string {
	out := fmt.Sprint(d.Alive(), d.Falls())
	d = d.Copy()
	d.Restart()
	for f := 0; d.Size(f) >= 0; f++ {
		out += fmt.Sprintf(" %x %d", fileOf(d, f), d.Lasts(f))
	}
	return out
}

func TestFormatRefuses(t *testing.T) {
	for _, c := range []struct{ files, cap, slots int }{
		{1, 4096, 4},
		{2, 1023, 4}, {2, 0, 4}, {2, -1, 4}, {2, api.MaxLog + 1, 4}, {2, math.MinInt, 4}, {2, math.MaxInt, 4},
		{2, 4096, 0}, {2, 4096, -1}, {2, 4096, api.MaxSlots + 1}, {2, 4096, math.MinInt}, {2, 4096, math.MaxInt}, {2, 0, 0},
	} {
		for _, off := range []bool{false, true} {
			d, _ := disk.New(c.files)
			d.Append(0, []byte("something"))
			if off {
				d.Crash(nil)
			}
			was := look(d)
			if e := Format(d, c.cap, c.slots); e != api.ErrArg || look(d) != was {
				t.Errorf("U1: Format(%v): %d", c, e)
			}
		}
	}
	d, _ := disk.New(2)
	d.Crash(nil)
	if e := Format(d, 4096, 4); e != api.ErrDead {
		t.Errorf("U1: Format without power: %d", e)
	}
}

func TestFormat(t *testing.T) {
	for _, c := range []struct{ files, cap, slots int }{{2, 1024, 1}, {2, api.MaxLog, api.MaxSlots}, {8, 4096, 7}} {
		d, _ := disk.New(c.files)
		for f := range c.files {
			d.Append(f, []byte("something"))
		}
		if e := Format(d, c.cap, c.slots); e != api.OK || !bytes.Equal(fileOf(d, 0), newPlain("op", c.cap, c.slots).file) || d.Lasts(0) != 34 || d.Size(1) != 0 {
			t.Fatalf("U1: Format(%v): %d, %s", c, e, look(d))
		}
		if c.files > 2 && string(fileOf(d, 2)) != "something" {
			t.Errorf("U1: Format writes into another file")
		}
		for _, token := range []string{"op", "other", strings.Repeat("o", 64)} {
			s, e := Open(d, []byte(token), 0)
			if e != api.OK || s.Bytes() != 34 || s.Free() != c.slots || len(s.Tenants()) != 0 {
				t.Errorf("U1: Open behind Format(%v): %d", c, e)
			}
		}
		s := opened(t, d, 0)
		wants(t, s, makes("t", 1, 1), api.OK)
		if e := Format(d, c.cap, c.slots); e != api.OK || len(opened(t, d, 0).Tenants()) != 0 {
			t.Errorf("U1: Format of a disk that was in use: %d", e)
		}
	}
}

// Each of the four steps of Format may be the last one.
func TestFormatFalls(t *testing.T) {
	for ops := range 5 {
		for _, keep := range []int{0, 33, 34} {
			d, _ := begun(t, 4096, 4, 5, 100)
			d.Fuse(ops, []int{keep, keep})
			if e := Format(d, 4096, 4); (e == api.ErrDead) != (ops < 4) || (e == api.OK) != (ops == 4) {
				t.Fatalf("U1: Format, and the power fails at the op %d: %d", ops, e)
			}
			d.Restart()
			s, e := Open(d, []byte("op"), 0)
			switch {
			case ops == 0:
				if e != api.OK || len(s.Tenants()) != 1 {
					t.Errorf("U1: nothing was done, but Open: %d", e)
				}
			case ops == 4 || ops > 1 && keep == 34:
				if e != api.OK || len(s.Tenants()) != 0 {
					t.Errorf("U1: behind Format that fell at the op %d: %d", ops, e)
				}
			default:
				if s != nil || e != api.ErrFormat {
					t.Errorf("U1: behind Format that fell at the op %d, keeping %d: %d", ops, keep, e)
				}
			}
		}
	}
}

// refused fails unless Open answers that error, and changes nothing.
func refused(t *testing.T, what string, d *disk.Disk, operator string, now int64, want api.Errno) {
	t.Helper()
	was := look(d)
	s, e := Open(d, []byte(operator), now)
	if s != nil || e != want {
		t.Errorf("U1: Open of %s: %d; want %d", what, e, want)
	}
	if look(d) != was {
		t.Errorf("P2: Open of %s changes something:\n%s\n%s", what, was, look(d))
	}
}

func TestOpenRefusesArguments(t *testing.T) {
	right, _ := begun(t, 4096, 4, 5, 100)
	blank, _ := disk.New(2)
	off := right.Copy()
	off.Crash(nil)
	for _, d := range []*disk.Disk{right, blank, off} {
		for _, operator := range []string{"", strings.Repeat("o", 65), strings.Repeat("o", 10000)} {
			refused(t, "a wrong token", d, operator, 0, api.ErrArg)
			refused(t, "a wrong token and time", d, operator, -1, api.ErrArg)
		}
		for _, now := range []int64{-1, api.MaxNow + 1, math.MinInt64, math.MaxInt64} {
			refused(t, "a wrong time", d, "op", now, api.ErrArg)
		}
	}
	if s, e := Open(right, nil, 0); s != nil || e != api.ErrArg {
		t.Errorf("U1: Open of no token: %d", e)
	}
	refused(t, "a disk without power", off, "op", 0, api.ErrDead)
	refused(t, "a new disk", blank, "op", 0, api.ErrFormat)
	one, _ := disk.New(1)
	one.Append(0, fileOf(right, 0))
	refused(t, "a disk of one file", one, "op", 0, api.ErrFormat)
	for _, now := range []int64{0, 1, api.MaxNow} {
		if s := opened(t, right, now); s.Bytes() != right.Size(0) {
			t.Errorf("U1: Open at %d", now)
		}
	}
}

// The operator is who opens it: nothing of who was it ahead is kept.
func TestOperatorIsWhoOpens(t *testing.T) {
	d, _ := begun(t, 4096, 4, 5, 100)
	long := strings.Repeat("\xff", 64)
	s, e := Open(d, []byte(long), 0)
	if e != api.OK {
		t.Fatalf("U1: Open: %d", e)
	}
	wants(t, s, drops("t"), api.ErrToken)
	q := drops("t")
	q.Token = []byte(long)
	wantsCount(t, s, counts("k", "t"), 0)
	wants(t, s, q, api.OK)
	if b := fileOf(d, 0); bytes.Contains(b, []byte("op")) || bytes.Contains(b, []byte(long)) {
		t.Errorf("U1: the operator's token is kept: %x", b)
	}
}

// logOf is a disk with a log of that state and these records, as wal writes it, and behind them, and in the other file, bytes that a fall left.
func logOf(t *testing.T, cap, slots int, state []byte, records ...[]byte) *disk.Disk {
	t.Helper()
	d, _ := disk.New(3)
	if e := wal.Format(d, cap, slots, state); e != api.OK {
		t.Fatalf("wal.Format: %d", e)
	}
	l, _, _, _ := wal.Open(d)
	for _, record := range records {
		if e := l.Append(record); e != api.OK {
			t.Fatalf("wal.Append: %d", e)
		}
	}
	torn, _ := frame.Put(nil, 2, []byte("torn"))
	d.Append(0, torn[:7])
	d.Append(1, torn)
	d.Append(2, torn)
	return d
}

func packed(t *testing.T, c api.Change) []byte {
	t.Helper()
	b, e := gate.Pack(c)
	if e != api.OK {
		t.Fatalf("gate.Pack: %d", e)
	}
	return b
}

func TestOpenRefusesBrokenLogs(t *testing.T) {
	change := func(kind int, name string) api.Change {
		return api.Change{Kind: kind, Tenant: name, Series: 2, Samples: 10, Grant: api.Grant{Digest: [32]byte{1}, Rights: 15}, Digest: [32]byte{1}, Writes: []api.Series{a("x", 1)}}
	}
	makesT := packed(t, change(api.ChangeMake, "t"))
	write := packed(t, change(api.ChangeWrite, "t"))
	two := list{"t": {account: api.Account{MaxSeries: 2, MaxSamples: 9, Written: 2}, series: []api.Series{a("x", 1), a("y", 1)}}}.save()
	none := []byte{0}
	late := change(api.ChangeWrite, "t")
	late.Window = api.MaxNow/api.WindowSize + 1
	stale := change(api.ChangeWrite, "t")
	stale.Writes = []api.Series{a("x", 2, 1)}
	for i, d := range []*disk.Disk{
		logOf(t, 4096, 4, nil),
		logOf(t, 4096, 4, []byte("?")),
		logOf(t, 4096, 4, []byte{0, 0}),
		logOf(t, 4096, 4, []byte{0x80, 0}),
		logOf(t, 4096, 4, two[:len(two)-1]),
		logOf(t, 4096, 1, two),
		logOf(t, 4096, 4, none, nil),
		logOf(t, 4096, 4, none, []byte("?")),
		logOf(t, 4096, 4, none, append(slices.Clone(makesT), 0)),
		logOf(t, 4096, 4, none, makesT, makesT),
		logOf(t, 4096, 4, none, write),
		logOf(t, 4096, 4, none, write, makesT),
		logOf(t, 4096, 4, none, makesT, write, write),
		logOf(t, 4096, 4, none, makesT, packed(t, late)),
		logOf(t, 4096, 4, none, makesT, packed(t, stale)),
		logOf(t, 4096, 4, none, packed(t, change(api.ChangeMake, "T?"))),
		logOf(t, 4096, 4, none, packed(t, change(api.ChangeRemove, "t"))),
		logOf(t, 4096, 4, none, makesT, packed(t, change(api.ChangeRevoke, "t"))),
		logOf(t, 4096, 4, none, makesT, packed(t, change(api.ChangeGrant, "t")), packed(t, change(api.ChangeGrant, "t"))),
		logOf(t, 4096, 2, two, packed(t, change(api.ChangeRemove, "t")), write),
	} {
		what := fmt.Sprint("the broken log ", i)
		d.Fuse(9, nil)
		refused(t, what, d, "op", 0, api.ErrBroken)
		// The fuse is as it was: nine ops go.
		for n := range 10 {
			if e := d.Sync(2); (e == api.OK) != (n < 9) {
				t.Fatalf("P2: behind Open of %s the op %d: %d", what, n, e)
			}
		}
	}
	for i, d := range []*disk.Disk{
		logOf(t, 4096, 2, two),
		logOf(t, 4096, 4, none, makesT, write),
		logOf(t, 4096, 4, none, makesT, packed(t, change(api.ChangeRemove, "t")), makesT, write),
		logOf(t, 4096, 2, two, packed(t, change(api.ChangeRemove, "t")), makesT, write),
	} {
		s, e := Open(d, []byte("op"), 0)
		if e != api.OK || !slices.Equal(s.Tenants(), []string{"t"}) || d.Size(1) != 0 || d.Size(0) != s.Bytes() || d.Size(2) != 13 {
			t.Errorf("U1: the log %d, that is right: %d", i, e)
		}
	}
}

// wal's errors stand ahead of those of the door: also that the power fails when the log is cut.
func TestOpenTellsErrorsOfTheLogFirst(t *testing.T) {
	for ops := range 2 {
		for _, state := range []string{"\x00", "?"} {
			d := logOf(t, 4096, 4, []byte(state))
			d.Fuse(ops, nil)
			if s, e := Open(d, []byte("op"), 0); s != nil || e != api.ErrDead || d.Falls() != 1 || d.Alive() {
				t.Errorf("U1: Open of the state %q, and the power fails at the op %d: %d, falls %d", state, ops, e, d.Falls())
			}
		}
	}
	d := logOf(t, 4096, 4, []byte("?"))
	d.Truncate(1, 0)
	d.Append(1, fileOf(d, 0))
	refused(t, "two files of one generation", d, "op", 0, api.ErrBroken)
	wrong, _ := frame.Put(fileOf(formatted(t, 4096, 4), 0), 3, nil)
	d, _ = disk.New(2)
	d.Append(0, wrong)
	refused(t, "a frame that is no record", d, "op", 0, api.ErrBroken)
}

// A door that the records make greater than the cap is none that a stack let be, though the records themselves fit.
func TestOpenWantsTheDoorToFit(t *testing.T) {
	full := list{"t": {account: api.Account{MaxSeries: 1000, MaxSamples: 1000}}}
	for i := range 40 {
		full[fmt.Sprintf("%016d", i)] = plainTenant{account: api.Account{MaxSeries: 1, MaxSamples: 1}}
	}
	c := api.Change{Kind: api.ChangeWrite, Tenant: "t"}
	for i := range 9 {
		c.Writes = append(c.Writes, a(fmt.Sprint(i), 1))
	}
	p := newPlain("op", 4096, 99)
	p.tenants = full
	behind, e := p.behind(c)
	if e != api.OK {
		t.Fatal(e)
	}
	weight := 33 + len(behind.save())
	frames := 33 + len(full.save()) + 9 + len(packed(t, c))
	if frames >= weight-1 {
		t.Fatalf("%d, %d", frames, weight)
	}
	for cap := frames; cap < weight+3; cap++ {
		d := logOf(t, cap, 99, full.save(), packed(t, c))
		if cap < weight {
			refused(t, "a door that does not fit", d, "op", 0, api.ErrBroken)
		} else if s := opened(t, d, 0); s.Slots("t") != 9 || s.Bytes() != frames {
			t.Errorf("U1: Open of a door that just fits: %d", s.Slots("t"))
		}
	}
	// What counts is the door behind all of them.
	d := logOf(t, frames+12, 99, full.save(), packed(t, c), packed(t, api.Change{Kind: api.ChangeRemove, Tenant: "t"}))
	if s := opened(t, d, 0); len(s.Tenants()) != 40 {
		t.Errorf("U1: %q", s.Tenants())
	}
}

// Of any files whatever Open ends, and tells one of its errors, or a stack.
func TestOpenOfWhatever(t *testing.T) {
	d, s := begun(t, 1024, 4, 5, 100)
	wants(t, s, writes("k", "t", a("x", 1)), api.OK)
	b := fileOf(d, 0)
	for at := range len(b) {
		for _, turn := range []byte{1, 0x80, 0xff} {
			other, _ := disk.New(2)
			turned := slices.Clone(b)
			turned[at] ^= turn
			other.Append(0, turned)
			s, e := Open(other, []byte("op"), 0)
			if (e == api.OK) != (at >= 34) || (s == nil) != (e != api.OK) || e != api.OK && e != api.ErrFormat {
				t.Fatalf("U1: Open, where the byte %d was turned: %d", at, e)
			}
		}
		other, _ := disk.New(2)
		other.Append(at%2, b[:at])
		if s, e := Open(other, []byte("op"), 0); (e == api.OK) != (at >= 34) || (s == nil) != (e == api.ErrFormat) {
			t.Fatalf("U1: Open, where %d bytes alone are left: %d", at, e)
		}
	}
}
