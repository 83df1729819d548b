package wal

import (
	"bytes"
	"encoding/binary"
	"hash/crc32"
	"math"
	"testing"

	"turnkey/api"
	"turnkey/disk"
)

const mostLog = 4194304

// framed: the frame of chapter 5, by the library's sum, apart from how the program makes it.
func framed(kind byte, data []byte) []byte {
	out := binary.LittleEndian.AppendUint32([]byte{kind}, uint32(len(data)))
	out = append(out, data...)
	return binary.LittleEndian.AppendUint32(out, crc32.ChecksumIEEE(out))
}

// headed: the head of chapter 6.
func headed(generation uint64, size, slots uint32, state string) []byte {
	data := binary.LittleEndian.AppendUint64([]byte("turnkey1"), generation)
	data = binary.LittleEndian.AppendUint32(data, size)
	data = binary.LittleEndian.AppendUint32(data, slots)
	return framed(1, append(data, state...))
}

// rowOf: a head, and records behind it.
func rowOf(head []byte, records ...string) []byte {
	out := bytes.Clone(head)
	for _, r := range records {
		out = append(out, framed(2, []byte(r))...)
	}
	return out
}

// holding: a disk whose first files have these bytes, all of which last.
func holding(t *testing.T, rows ...[]byte) *disk.Disk {
	t.Helper()
	d, e := disk.New(max(2, len(rows)))
	is(t, "disk.New", e, api.OK)
	for f, row := range rows {
		is(t, "disk.Append", d.Append(f, row), api.OK)
		is(t, "disk.Sync", d.Sync(f), api.OK)
	}
	return d
}

func formatted(t *testing.T, size, slots int, state string) *disk.Disk {
	t.Helper()
	d := holding(t)
	is(t, "Format", Format(d, size, slots, []byte(state)), api.OK)
	return d
}

// opened fails if Open does not tell just this.
func opened(t *testing.T, d *disk.Disk, state string, records ...string) *Log {
	t.Helper()
	l, s, r, e := Open(d)
	if e != api.OK || l == nil || string(s) != state || !same(r, records) {
		t.Fatalf("Open: %.60q, %.60q, %d; want %.60q, %.60q", s, r, e, state, records)
	}
	return l
}

// refused fails if Open does not refuse by just this, or changes anything, or so much as begins an op.
func refused(t *testing.T, what string, d *disk.Disk, want api.Errno) {
	t.Helper()
	was := d.Copy()
	d.Fuse(0, nil)
	if l, s, r, e := Open(d); l != nil || s != nil || r != nil || e != want {
		t.Fatalf("Open of %s: %v, %q, %q, %d; want %d", what, l, s, r, e, want)
	}
	if d.Alive() != was.Alive() {
		t.Fatalf("Open of %s: it was refused, but an op was done", what)
	}
	alike(t, what, d, was)
	if d.Alive() {
		d.Restart() // without the fuse
	}
}

func same(got [][]byte, want []string) bool {
	if len(got) != len(want) {
		return false
	}
	for i := range got {
		if string(got[i]) != want[i] {
			return false
		}
	}
	return true
}

// alike fails if two disks differ in a file, or in what of it lasts.
func alike(t *testing.T, what string, got, want *disk.Disk) {
	t.Helper()
	got, want = got.Copy(), want.Copy()
	got.Restart()
	want.Restart()
	for f := range api.MaxFiles {
		if got.Size(f) != want.Size(f) || got.Lasts(f) != want.Lasts(f) {
			t.Fatalf("%s: the file %d has %d bytes, of which %d last; want %d, %d", what, f, got.Size(f), got.Lasts(f), want.Size(f), want.Lasts(f))
		}
		a, _ := got.Read(f, 0, got.Size(f))
		b, _ := want.Read(f, 0, want.Size(f))
		if !bytes.Equal(a, b) {
			t.Fatalf("%s: the file %d is %.80x; want %.80x", what, f, a, b)
		}
	}
}

// holds fails if the first two files have not just these bytes, all of which last.
func holds(t *testing.T, what string, d *disk.Disk, rows ...[]byte) {
	t.Helper()
	alike(t, what, d, holding(t, rows...))
}

func is(t *testing.T, what string, got, want api.Errno) {
	t.Helper()
	if got != want {
		t.Fatalf("%s: %d, want %d", what, got, want)
	}
}

// says fails if a log does not say this of itself.
func says(t *testing.T, l *Log, bytes, size, slots int, generation uint64) {
	t.Helper()
	if l.Bytes() != bytes || l.Cap() != size || l.Slots() != slots || l.Generation() != generation {
		t.Fatalf("Bytes %d, Cap %d, Slots %d, Generation %d; want %d, %d, %d, %d", l.Bytes(), l.Cap(), l.Slots(), l.Generation(), bytes, size, slots, generation)
	}
}

func TestExamples(t *testing.T) {
	d := holding(t)
	refused(t, "a new disk", d, api.ErrFormat)
	is(t, "Format", Format(d, 1024, 4, []byte("ab")), api.OK)
	if d.Size(0) != 35 {
		t.Fatalf("the file 0 has %d bytes", d.Size(0))
	}
	l := opened(t, d, "ab")
	says(t, l, 35, 1024, 4, 1)
	before := d.Copy()
	is(t, "Append", l.Append([]byte("xyz")), api.OK)
	says(t, l, 47, 1024, 4, 1)
	if !l.Fits(968) || l.Fits(969) {
		t.Fatalf("Fits(968): %v; Fits(969): %v", l.Fits(968), l.Fits(969))
	}
	is(t, "Checkpoint", l.Checkpoint([]byte("q")), api.OK)
	says(t, l, 34, 1024, 4, 2)
	holds(t, "behind Checkpoint", d, nil, headed(2, 1024, 4, "q"))
	is(t, "Checkpoint of 992 bytes", l.Checkpoint(make([]byte, 992)), api.ErrLog)

	for kept, records := range map[int][]string{11: nil, 12: {"xyz"}} {
		d = before.Copy()
		l = opened(t, d, "ab")
		d.Fuse(1, []int{kept})
		is(t, "Append, its Sync burning the fuse", l.Append([]byte("xyz")), api.ErrDead)
		d.Restart()
		opened(t, d, "ab", records...)
		holds(t, "behind Open", d, rowOf(headed(1, 1024, 4, "ab"), records...))
	}

	l = opened(t, before, "ab")
	is(t, "Append", l.Append([]byte("xyz")), api.OK)
	before.Fuse(3, nil)
	is(t, "Checkpoint, its last Truncate burning the fuse", l.Checkpoint([]byte("q")), api.ErrDead)
	before.Restart()
	holds(t, "both are log files", before, rowOf(headed(1, 1024, 4, "ab"), "xyz"), headed(2, 1024, 4, "q"))
	opened(t, before, "q")
	holds(t, "the file 0 is cut", before, nil, headed(2, 1024, 4, "q"))

	head := headed(1, 1024, 4, "ab")
	refused(t, "two copies of one head", holding(t, head, head), api.ErrBroken)
	refused(t, "a frame of the kind 3 behind the head", holding(t, append(head, framed(3, nil)...)), api.ErrBroken)
}

func TestWeight(t *testing.T) {
	for n, want := range map[int]int{
		0: 33, 1: 34, 991: 1024, 65536: 65569, mostLog - 33: mostLog, mostLog - 25: mostLog + 8, mostLog - 24: mostLog + 9,
		mostLog - 23: 0, mostLog: 0, mostLog + 9: 0, 1 << 32: 0, math.MaxInt - 33: 0, math.MaxInt - 23: 0, math.MaxInt: 0,
		-1: 0, -24: 0, -32: 0, -33: 0, math.MinInt: 0,
	} {
		if got := Weight(n); got != want {
			t.Errorf("Weight(%d): %d, want %d", n, got, want)
		}
	}
}

func TestFormat(t *testing.T) {
	for _, c := range []struct{ size, slots, state int }{
		{1024, 1, 0}, {1024, 65536, 991}, {1025, 2, 992}, {65537, 258, 300}, {mostLog, 65536, 0}, {mostLog - 1, 7, mostLog - 34}, {mostLog, 1, mostLog - 33},
	} {
		state := bytes.Repeat([]byte{7}, c.state)
		d := formatted(t, c.size, c.slots, string(state))
		holds(t, "behind Format", d, headed(1, uint32(c.size), uint32(c.slots), string(state)))
		says(t, opened(t, d, string(state)), c.state+33, c.size, c.slots, 1)
	}
}

// The errors stand in the order in which the document names them; each case has all that come behind it, too.
func TestFormatRefuses(t *testing.T) {
	one, _ := disk.New(1)
	oneOff, _ := disk.New(1)
	oneOff.Crash(nil)
	row := rowOf(headed(9, 2048, 3, "kept"), "r")
	two, off := holding(t, row, []byte("x")), holding(t, row, []byte("x"))
	off.Crash(nil)
	for _, c := range []struct {
		d                  *disk.Disk
		size, slots, state int
		want               api.Errno
	}{
		{one, 1024, 1, 0, api.ErrArg}, {oneOff, 1024, 1, 992, api.ErrArg},
		{two, 1023, 1, 0, api.ErrArg}, {two, 0, 1, 0, api.ErrArg}, {two, -1024, 1, 0, api.ErrArg}, {two, math.MinInt, 1, 0, api.ErrArg},
		{two, mostLog + 1, 1, 0, api.ErrArg}, {two, 1<<32 + 1024, 1, 0, api.ErrArg}, {two, math.MaxInt, 1, 0, api.ErrArg},
		{two, 1024, 0, 0, api.ErrArg}, {two, 1024, -1, 0, api.ErrArg}, {two, 1024, math.MinInt, 0, api.ErrArg},
		{two, 1024, 65537, 0, api.ErrArg}, {two, 1024, 1<<32 + 1, 0, api.ErrArg}, {two, 1024, math.MaxInt, 0, api.ErrArg},
		{two, 1023, 1, 5000, api.ErrArg}, {two, 1024, 0, 5000, api.ErrArg}, {off, 1023, 1, 5000, api.ErrArg}, {off, 1024, 65537, 5000, api.ErrArg},
		{two, 1024, 1, 992, api.ErrLog}, {two, 1024, 1, 1024, api.ErrLog}, {two, 2048, 1, 2016, api.ErrLog}, {off, 1024, 1, 992, api.ErrLog},
		{two, mostLog, 1, mostLog - 32, api.ErrLog}, {two, mostLog, 1, mostLog - 24, api.ErrLog}, {two, mostLog, 1, mostLog - 23, api.ErrLog}, {two, mostLog, 1, 2 * mostLog, api.ErrLog},
		{off, 1024, 1, 991, api.ErrDead}, {off, mostLog, 65536, 0, api.ErrDead},
	} {
		was := c.d.Copy()
		if e := Format(c.d, c.size, c.slots, make([]byte, c.state)); e != c.want {
			t.Errorf("Format(%d, %d, %d bytes): %d, want %d", c.size, c.slots, c.state, e, c.want)
		}
		alike(t, "behind a Format that was refused", c.d, was)
	}
	opened(t, two, "kept", "r")
}

// Each step is seen by a fuse at the one behind it.
func TestFormatsSteps(t *testing.T) {
	old := rowOf(headed(7, 2048, 3, "old"), "r")
	head := headed(1, 1024, 4, "ab")
	for _, c := range []struct {
		ops, keep int
		want      api.Errno
		zero, one []byte
	}{
		{0, 99, api.ErrDead, old, []byte("junk")},
		{1, 99, api.ErrDead, nil, []byte("junk")},
		{2, -1, api.ErrDead, nil, nil},
		{2, 34, api.ErrDead, head[:34], nil},
		{2, 35, api.ErrDead, head, nil},
		{3, 0, api.ErrDead, nil, nil},
		{3, 34, api.ErrDead, head[:34], nil},
		{3, 99, api.ErrDead, head, nil},
		{4, 0, api.OK, head, nil},
	} {
		d := holding(t, old, []byte("junk"), []byte("others'"))
		d.Fuse(c.ops, []int{c.keep, c.keep})
		is(t, "Format with a fuse", Format(d, 1024, 4, []byte("ab")), c.want)
		if d.Alive() != (c.want == api.OK) {
			t.Fatalf("Format, fuse %d: alive %v", c.ops, d.Alive())
		}
		holds(t, "behind Format with a fuse", d, c.zero, c.one, []byte("others'"))
	}
}

func TestFormatKeepsNothingOfItsState(t *testing.T) {
	room := []byte("state, and behind it")
	d := holding(t)
	is(t, "Format", Format(d, 1024, 4, room[:5]), api.OK)
	if string(room) != "state, and behind it" {
		t.Fatalf("what was handed in was written into: %q", room)
	}
	clear(room)
	opened(t, d, "state")
}
