package disk

import (
	"math"
	"math/rand"
	"strconv"
	"testing"

	"turnkey/api"
)

func TestCrashKeeps(t *testing.T) {
	for _, c := range []struct {
		keep []int
		want [3]string
	}{
		{nil, [3]string{"ab", "", "x"}},
		{[]int{}, [3]string{"ab", "", "x"}},
		{[]int{0}, [3]string{"ab", "", "x"}},
		{[]int{1}, [3]string{"abc", "", "x"}},
		{[]int{2, 1}, [3]string{"abcd", "p", "x"}},
		{[]int{3, 2, 1}, [3]string{"abcde", "pq", "x"}},
		{[]int{4, 3, 0, 9}, [3]string{"abcde", "pq", "x"}},
		{[]int{-1, -2, -3}, [3]string{"ab", "", "x"}},
		{[]int{-1, 1}, [3]string{"ab", "p", "x"}},
		{[]int{math.MaxInt, math.MinInt, math.MaxInt}, [3]string{"abcde", "", "x"}},
		{[]int{math.MinInt, math.MaxInt, math.MinInt}, [3]string{"ab", "pq", "x"}},
		{make([]int, 99), [3]string{"ab", "", "x"}},
	} {
		d := newDisk(t, 3)
		d.Append(0, []byte("ab"))
		d.Sync(0)
		d.Append(0, []byte("cde"))
		d.Append(1, []byte("pq"))
		d.Append(2, []byte("x"))
		d.Sync(2)
		d.Crash(c.keep)
		if d.Alive() || d.Falls() != 1 {
			t.Fatalf("Crash(%v): alive %v, falls %d", c.keep, d.Alive(), d.Falls())
		}
		d.Crash([]int{-1, -1, -1}) // the power is off already
		d.Restart()
		if !d.Alive() || d.Falls() != 1 {
			t.Fatalf("Crash(%v), Restart: alive %v, falls %d", c.keep, d.Alive(), d.Falls())
		}
		for f, want := range c.want {
			holds(t, d, f, want, len(want))
		}
		d.Crash(nil)
		d.Restart()
		for f, want := range c.want {
			holds(t, d, f, want, len(want))
		}
		if d.Falls() != 2 {
			t.Fatalf("falls %d", d.Falls())
		}
	}
}

func TestWithoutPower(t *testing.T) {
	d := newDisk(t, 2)
	d.Append(0, []byte("abc"))
	d.Crash([]int{2})
	for _, f := range []int{0, 1, 2, -1, math.MaxInt} {
		is(t, "Append", d.Append(f, []byte("x")), api.ErrDead)
		is(t, "Append of too much", d.Append(f, make([]byte, api.MaxFile+1)), api.ErrDead)
		is(t, "Sync", d.Sync(f), api.ErrDead)
		is(t, "Truncate", d.Truncate(f, 0), api.ErrDead)
		is(t, "Truncate", d.Truncate(f, -1), api.ErrDead)
		for _, n := range []int{0, 1, -1, 9} {
			if b, e := d.Read(f, 0, n); b != nil || e != api.ErrDead {
				t.Fatalf("Read(%d, 0, %d): %q, %d", f, n, b, e)
			}
		}
	}
	is(t, "Fuse", d.Fuse(0, nil), api.ErrDead)
	is(t, "Fuse(-1)", d.Fuse(-1, nil), api.ErrDead)
	if d.Size(0) != 2 || d.Lasts(0) != 2 || d.Size(1) != 0 || d.Size(2) != -1 || d.Lasts(-1) != -1 || d.Falls() != 1 {
		t.Fatalf("size %d, lasts %d, falls %d", d.Size(0), d.Lasts(0), d.Falls())
	}
	d.Restart()
	is(t, "Sync: no fuse was set", d.Sync(0), api.OK)
	holds(t, d, 0, "ab", 2)
}

func TestRestartWithPower(t *testing.T) {
	d := newDisk(t, 1)
	d.Append(0, []byte("abc"))
	d.Fuse(0, nil)
	d.Restart()
	if !d.Alive() || d.Falls() != 0 {
		t.Fatalf("alive %v, falls %d", d.Alive(), d.Falls())
	}
	holds(t, d, 0, "abc", 0)
	is(t, "Sync", d.Sync(0), api.OK)
	holds(t, d, 0, "abc", 3)
}

func TestExamplesOfFuse(t *testing.T) {
	d := newDisk(t, 2)
	is(t, "Fuse(1, 0, 2)", d.Fuse(1, []int{0, 2}), api.OK)
	is(t, "the op that goes", d.Append(1, []byte("a")), api.OK)
	is(t, "the op that burns", d.Append(1, []byte("bcd")), api.ErrDead)
	if d.Alive() || d.Falls() != 1 || d.Size(1) != 2 || d.Lasts(1) != 2 {
		t.Fatalf("alive %v, falls %d, size %d, lasts %d", d.Alive(), d.Falls(), d.Size(1), d.Lasts(1))
	}
	d.Restart()
	holds(t, d, 1, "ab", 2)
	is(t, "Append: the fuse is burnt", d.Append(0, []byte("xy")), api.OK)
	is(t, "Fuse(0)", d.Fuse(0, nil), api.OK)
	is(t, "Sync(0)", d.Sync(0), api.ErrDead)
	d.Restart()
	holds(t, d, 0, "", 0)
}

// TestFuseAtEachOp: the ops go as long as they may, and the next one burns it, whichever it is.
func TestFuseAtEachOp(t *testing.T) {
	burns := []struct {
		do   func(d *Disk) api.Errno
		want string // behind it, the loose bytes kept
	}{
		{func(d *Disk) api.Errno { return d.Append(1, []byte("yz")) }, "abcdyz"},
		{func(d *Disk) api.Errno { return d.Append(1, nil) }, "abcd"},
		{func(d *Disk) api.Errno { return d.Sync(1) }, "abcd"},
		{func(d *Disk) api.Errno { return d.Truncate(1, 1) }, "abcd"},
		{func(d *Disk) api.Errno { return d.Truncate(1, 4) }, "abcd"},
	}
	for which, b := range burns {
		for ops := range 9 {
			for kept := -1; kept < 9; kept++ {
				d := newDisk(t, 2)
				d.Append(1, []byte("ab"))
				d.Sync(1)
				d.Append(1, []byte("cd"))
				is(t, "Fuse", d.Fuse(ops, []int{9, kept}), api.OK)
				for range ops {
					is(t, "an op that goes", d.Append(1, nil), api.OK)
				}
				refuseAll(t, d)
				if !d.Alive() || d.Falls() != 0 {
					t.Fatalf("%d: what is refused, and what reads, burns a fuse", which)
				}
				is(t, "the op that burns", b.do(d), api.ErrDead)
				if d.Alive() || d.Falls() != 1 {
					t.Fatalf("%d: alive %v, falls %d", which, d.Alive(), d.Falls())
				}
				d.Restart()
				stays := b.want[:2+max(0, min(kept, len(b.want)-2))]
				holds(t, d, 1, stays, len(stays))
				is(t, "Sync: there is no fuse", d.Sync(1), api.OK)
			}
		}
	}
}

// refuseAll calls what is refused, and what is no op.
func refuseAll(t *testing.T, d *Disk) {
	t.Helper()
	is(t, "Append", d.Append(2, nil), api.ErrArg)
	is(t, "Append", d.Append(1, make([]byte, api.MaxFile)), api.ErrFull)
	is(t, "Sync", d.Sync(-1), api.ErrArg)
	is(t, "Truncate", d.Truncate(1, 5), api.ErrArg)
	is(t, "Truncate", d.Truncate(1, -1), api.ErrArg)
	is(t, "Fuse", d.Fuse(-1, []int{7, 7}), api.ErrArg)
	d.Read(1, 0, 4)
	d.Read(1, 0, 5)
	d.Size(1)
	d.Lasts(1)
	d.Copy()
}

func TestFuseInThePlaceOfAnother(t *testing.T) {
	d := newDisk(t, 1)
	d.Fuse(0, []int{9})
	is(t, "Fuse", d.Fuse(2, []int{1}), api.OK)
	is(t, "Append", d.Append(0, []byte("a")), api.OK)
	is(t, "Append", d.Append(0, []byte("b")), api.OK)
	is(t, "Append", d.Append(0, []byte("c")), api.ErrDead)
	d.Restart()
	holds(t, d, 0, "a", 1)
	for _, ops := range []int{-1, -2, math.MinInt} {
		is(t, "Fuse below 0", d.Fuse(ops, nil), api.ErrArg)
	}
	is(t, "Fuse", d.Fuse(math.MaxInt, nil), api.OK)
	is(t, "Append", d.Append(0, []byte("d")), api.OK)
	d.Crash([]int{1})
	d.Restart()
	holds(t, d, 0, "ad", 2)
}

func TestCrashTakesTheFuse(t *testing.T) {
	d := newDisk(t, 1)
	d.Fuse(0, []int{9})
	d.Append(0, nil)
	d.Restart()
	d.Append(0, []byte("abc"))
	d.Fuse(0, []int{9})
	d.Crash([]int{1})
	d.Restart()
	is(t, "Append", d.Append(0, []byte("x")), api.OK)
	holds(t, d, 0, "ax", 1)
}

func TestListsHandedIn(t *testing.T) {
	d := newDisk(t, 2)
	room := []int{7, 1, 2, 7}
	d.Append(0, []byte("abc"))
	d.Append(1, []byte("xyz"))
	d.Fuse(0, room[1:3])
	room[1], room[2] = 3, 3
	is(t, "Sync", d.Sync(0), api.ErrDead)
	if room[0] != 7 || room[1] != 3 || room[2] != 3 || room[3] != 7 {
		t.Fatalf("the list is %v", room)
	}
	d.Restart()
	holds(t, d, 0, "a", 1)
	holds(t, d, 1, "xy", 2)
	d.Append(0, []byte("bc"))
	list := []int{1, -4, 8}
	d.Crash(list)
	if list[0] != 1 || list[1] != -4 || list[2] != 8 {
		t.Fatalf("the list is %v", list)
	}
}

func TestCopyIsTheSame(t *testing.T) {
	d := newDisk(t, 8)
	d.Crash(nil)
	d.Restart()
	d.Append(7, []byte("abc"))
	d.Sync(7)
	d.Append(7, []byte("def"))
	d.Fuse(1, []int{0, 0, 0, 0, 0, 0, 0, 2})
	c := d.Copy()
	for _, disk := range []*Disk{d, c} {
		holds(t, disk, 7, "abcdef", 3)
		is(t, "an op that goes", disk.Append(0, nil), api.OK)
		is(t, "the op that burns", disk.Append(7, []byte("g")), api.ErrDead)
		if disk.Falls() != 2 || disk.Size(7) != 5 || disk.Lasts(7) != 5 || disk.Size(8) != -1 {
			t.Fatalf("falls %d, size %d, lasts %d", disk.Falls(), disk.Size(7), disk.Lasts(7))
		}
	}
	off := c.Copy()
	if off.Alive() || off.Falls() != 2 || off.Size(7) != 5 {
		t.Fatalf("alive %v, falls %d, size %d", off.Alive(), off.Falls(), off.Size(7))
	}
	off.Restart()
	if c.Alive() {
		t.Fatal("Restart of a copy")
	}
	is(t, "Sync: there is no fuse", off.Sync(7), api.OK)
}

func TestCopyKnowsNothing(t *testing.T) {
	d := newDisk(t, 1)
	d.Append(0, []byte("abcdef"))
	d.Truncate(0, 2) // there is room behind the file's bytes
	d.Sync(0)
	d.Append(0, []byte("c"))
	c := d.Copy()
	d.Append(0, []byte("XY"))
	c.Append(0, []byte("pq"))
	holds(t, d, 0, "abcXY", 2)
	holds(t, c, 0, "abcpq", 2)
	d.Truncate(0, 0)
	d.Append(0, []byte("VWXYZ"))
	d.Sync(0)
	holds(t, c, 0, "abcpq", 2)
	c.Fuse(0, []int{9})
	is(t, "Append to the first", d.Append(0, nil), api.OK)
	d.Fuse(0, nil)
	is(t, "Append to the copy", c.Append(0, []byte("r")), api.ErrDead)
	if !d.Alive() || d.Falls() != 0 {
		t.Fatal("the first disk's power")
	}
	is(t, "Append to the first", d.Append(0, []byte("!")), api.ErrDead)
	c.Restart()
	holds(t, c, 0, "abcpqr", 6)
	d.Restart()
	holds(t, d, 0, "VWXYZ", 5)
}

// TestCopiesOfAFuse: ops that one of two disks does are not the other one's.
func TestCopiesOfAFuse(t *testing.T) {
	d := newDisk(t, 1)
	d.Fuse(2, nil)
	d.Append(0, nil)
	c := d.Copy()
	is(t, "Append", d.Append(0, nil), api.OK)
	is(t, "Append", d.Append(0, nil), api.ErrDead)
	is(t, "Append to the copy", c.Append(0, nil), api.OK)
	is(t, "Append to the copy", c.Append(0, nil), api.ErrDead)
}

// TestWhatFollows: what was synced stays, whatever list; what is loose stays as a beginning.
func TestWhatFollows(t *testing.T) {
	r := rand.New(rand.NewSource(4))
	for range 2000 {
		d := newDisk(t, 2)
		row := strconv.FormatUint(r.Uint64(), 2)
		synced := r.Intn(len(row) + 1)
		d.Append(1, []byte(row[:synced]))
		d.Sync(1)
		d.Append(1, []byte(row[synced:]))
		d.Crash(someKeep(r))
		d.Restart()
		n := d.Size(1)
		if n < synced || n > len(row) {
			t.Fatalf("%d of %d bytes, of which %d were synced", n, len(row), synced)
		}
		holds(t, d, 1, row[:n], n)
	}
}

func someKeep(r *rand.Rand) []int {
	keep := make([]int, r.Intn(6))
	for i := range keep {
		switch r.Intn(5) {
		case 0:
			keep[i] = []int{math.MaxInt, math.MinInt, -1, 0}[r.Intn(4)]
		default:
			keep[i] = r.Intn(8)
		}
	}
	return keep
}

// TestAgainstThePlainDisk: some thousands of calls, and copies that go on beside the first one.
func TestAgainstThePlainDisk(t *testing.T) {
	for seed := range int64(300) {
		r := rand.New(rand.NewSource(seed))
		files := 1 + r.Intn(4)
		disks, plains := []*Disk{newDisk(t, files)}, []*plain{newPlain(files)}
		for range 150 {
			i := r.Intn(len(disks))
			if len(disks) < 4 && r.Intn(20) == 0 {
				disks, plains = append(disks, disks[i].Copy()), append(plains, plains[i].copies())
			}
			behind := someCall(t, r, disks[i], plains[i])
			for j := range disks {
				alike(t, disks[j], plains[j], behind)
			}
		}
	}
}

// someCall does one thing to both, and fails if they answer otherwise.
func someCall(t *testing.T, r *rand.Rand, d *Disk, p *plain) string {
	t.Helper()
	f := r.Intn(len(p.files)+2) - 1
	var name string
	var got, want api.Errno
	switch r.Intn(12) {
	case 0, 1, 2, 3:
		b := []byte(strconv.FormatUint(r.Uint64(), 36))[:r.Intn(8)]
		name, got, want = "Append", d.Append(f, b), p.appends(f, b)
	case 4, 5:
		name, got, want = "Sync", d.Sync(f), p.syncs(f)
	case 6, 7:
		n := r.Intn(16) - 2
		name, got, want = "Truncate", d.Truncate(f, n), p.truncates(f, n)
	case 8:
		ops, keep := r.Intn(8)-1, someKeep(r)
		name, got, want = "Fuse", d.Fuse(ops, keep), p.fuses(ops, keep)
	case 9:
		keep := someKeep(r)
		d.Crash(keep)
		p.crashes(keep)
		name = "Crash"
	default:
		if p.off || r.Intn(8) == 0 {
			d.Restart()
			p.restarts()
			name = "Restart"
		}
	}
	is(t, name, got, want)
	return name
}
