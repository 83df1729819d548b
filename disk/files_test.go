package disk

import (
	"bytes"
	"math"
	"testing"

	"turnkey/api"
)

func newDisk(t *testing.T, files int) *Disk {
	t.Helper()
	d, e := New(files)
	if e != api.OK || d == nil {
		t.Fatalf("New(%d): %v, %d", files, d, e)
	}
	return d
}

// is fails if the answer is not this one.
func is(t *testing.T, what string, got, want api.Errno) {
	t.Helper()
	if got != want {
		t.Fatalf("%s: %d, want %d", what, got, want)
	}
}

// holds fails if a file has not these bytes, of which the first ones last.
func holds(t *testing.T, d *Disk, f int, row string, lasts int) {
	t.Helper()
	if d.Size(f) != len(row) || d.Lasts(f) != lasts {
		t.Fatalf("the file %d: size %d, lasts %d; want %d, %d", f, d.Size(f), d.Lasts(f), len(row), lasts)
	}
	got, e := d.Read(f, 0, len(row))
	if e != api.OK || string(got) != row {
		t.Fatalf("the file %d: %q, %d; want %q", f, got, e, row)
	}
}

func TestNew(t *testing.T) {
	for _, files := range []int{0, -1, 9, 10, 1 << 32, 1<<32 + 1, math.MaxInt, math.MinInt} {
		if d, e := New(files); d != nil || e != api.ErrArg {
			t.Errorf("New(%d): %v, %d", files, d, e)
		}
	}
	for files := 1; files <= 8; files++ {
		d := newDisk(t, files)
		if !d.Alive() || d.Falls() != 0 {
			t.Errorf("New(%d): alive %v, falls %d", files, d.Alive(), d.Falls())
		}
		for f := range files {
			holds(t, d, f, "", 0)
		}
		for _, f := range []int{files, files + 1, -1, math.MaxInt, math.MinInt} {
			if d.Size(f) != -1 || d.Lasts(f) != -1 {
				t.Errorf("New(%d): the file %d: size %d, lasts %d", files, f, d.Size(f), d.Lasts(f))
			}
		}
		for range 99 {
			is(t, "Sync of a new disk, which has no fuse", d.Sync(0), api.OK)
		}
	}
}

func TestExamplesOfFiles(t *testing.T) {
	d := newDisk(t, 2)
	is(t, "Append", d.Append(0, []byte("abc")), api.OK)
	is(t, "Sync", d.Sync(0), api.OK)
	is(t, "Append", d.Append(0, []byte("de")), api.OK)
	holds(t, d, 0, "abcde", 3)
	is(t, "Sync(2)", d.Sync(2), api.ErrArg)
	d.Crash([]int{1})
	if d.Size(0) != 4 || d.Lasts(0) != 4 || d.Falls() != 1 {
		t.Fatalf("behind Crash: size %d, lasts %d, falls %d", d.Size(0), d.Lasts(0), d.Falls())
	}
	if b, e := d.Read(0, 0, 4); b != nil || e != api.ErrDead {
		t.Fatalf("Read without power: %q, %d", b, e)
	}
	d.Restart()
	holds(t, d, 0, "abcd", 4)
	if b, e := d.Read(0, 4, 2); b != nil || e != api.ErrArg {
		t.Fatalf("Read(0, 4, 2): %q, %d", b, e)
	}
	is(t, "Truncate(0, 5)", d.Truncate(0, 5), api.ErrArg)
	if d.Falls() != 1 {
		t.Fatalf("falls %d", d.Falls())
	}
}

func TestExamplesOfTruncate(t *testing.T) {
	d := newDisk(t, 2)
	d.Append(1, []byte("xyz"))
	is(t, "Truncate(1, 2)", d.Truncate(1, 2), api.OK)
	holds(t, d, 1, "xy", 0)
	d.Append(0, []byte("ab"))
	d.Sync(0)
	is(t, "Truncate(0, 1)", d.Truncate(0, 1), api.OK)
	d.Crash(nil)
	d.Restart()
	holds(t, d, 0, "a", 1)
	holds(t, d, 1, "", 0)
}

func TestTruncateEverywhere(t *testing.T) {
	row := "abcdef"
	for lasts := range len(row) + 1 {
		for n := -2; n <= len(row)+2; n++ {
			d := newDisk(t, 3)
			d.Append(1, []byte(row[:lasts]))
			d.Sync(1)
			d.Append(1, []byte(row[lasts:]))
			if n < 0 || n > len(row) {
				is(t, "Truncate", d.Truncate(1, n), api.ErrArg)
				holds(t, d, 1, row, lasts)
				continue
			}
			is(t, "Truncate", d.Truncate(1, n), api.OK)
			holds(t, d, 1, row[:n], min(n, lasts))
			is(t, "Append", d.Append(1, []byte("XY")), api.OK)
			holds(t, d, 1, row[:n]+"XY", min(n, lasts))
			d.Crash([]int{0, 99})
			d.Restart()
			holds(t, d, 1, row[:n]+"XY", n+2)
		}
	}
}

func TestReadEverywhere(t *testing.T) {
	d := newDisk(t, 2)
	row := "abcdef"
	d.Append(1, []byte("abcd"))
	d.Sync(1)
	d.Append(1, []byte("ef"))
	for at := -2; at < 9; at++ {
		for n := -2; n < 9; n++ {
			b, e := d.Read(1, at, n)
			if at < 0 || n < 0 || at+n > len(row) {
				if b != nil || e != api.ErrArg {
					t.Errorf("Read(1, %d, %d): %q, %d", at, n, b, e)
				}
			} else if e != api.OK || string(b) != row[at:at+n] {
				t.Errorf("Read(1, %d, %d): %q, %d", at, n, b, e)
			}
		}
	}
	for _, c := range [][3]int{
		{1, 1, math.MaxInt}, {1, math.MaxInt, 1}, {1, math.MaxInt, math.MaxInt}, {1, math.MaxInt, 0}, {1, 0, math.MaxInt},
		{1, math.MinInt, math.MinInt}, {1, math.MinInt, 1}, {1, 6, math.MinInt}, {1, math.MaxInt, math.MinInt},
		{2, 0, 0}, {-1, 0, 0}, {math.MaxInt, 0, 0}, {math.MinInt, 0, 0}, {0, 0, 1}, {0, 1, 0},
	} {
		if b, e := d.Read(c[0], c[1], c[2]); b != nil || e != api.ErrArg {
			t.Errorf("Read%v: %q, %d", c, b, e)
		}
	}
}

func TestFilesThatAreNotThere(t *testing.T) {
	d := newDisk(t, 3)
	d.Append(2, []byte("ab"))
	for _, f := range []int{3, 4, 8, -1, math.MaxInt, math.MinInt} {
		is(t, "Append", d.Append(f, []byte("x")), api.ErrArg)
		is(t, "Append of too much", d.Append(f, make([]byte, api.MaxFile+1)), api.ErrArg)
		is(t, "Sync", d.Sync(f), api.ErrArg)
		is(t, "Truncate", d.Truncate(f, 0), api.ErrArg)
		is(t, "Truncate", d.Truncate(f, -1), api.ErrArg)
	}
	holds(t, d, 0, "", 0)
	holds(t, d, 1, "", 0)
	holds(t, d, 2, "ab", 0)
}

func TestFullFile(t *testing.T) {
	d := newDisk(t, 2)
	is(t, "Append of too much", d.Append(0, make([]byte, api.MaxFile+1)), api.ErrFull)
	holds(t, d, 0, "", 0)
	is(t, "Append", d.Append(0, []byte("ab")), api.OK)
	is(t, "Append of one byte too many", d.Append(0, make([]byte, api.MaxFile-1)), api.ErrFull)
	holds(t, d, 0, "ab", 0)
	is(t, "Append of all that has room", d.Append(0, bytes.Repeat([]byte("c"), api.MaxFile-2)), api.OK)
	is(t, "Append behind it", d.Append(0, []byte("d")), api.ErrFull)
	is(t, "Append of nothing", d.Append(0, nil), api.OK)
	is(t, "Append to the other file", d.Append(1, []byte("d")), api.OK)
	if d.Size(0) != 16777216 || d.Lasts(0) != 0 {
		t.Fatalf("size %d, lasts %d", d.Size(0), d.Lasts(0))
	}
	is(t, "Fuse", d.Fuse(0, []int{5, 5}), api.OK)
	is(t, "Append that is refused, and burns nothing", d.Append(0, []byte("d")), api.ErrFull)
	is(t, "Truncate", d.Truncate(1, 0), api.ErrDead)
	is(t, "Append without power", d.Append(0, make([]byte, api.MaxFile)), api.ErrDead)
	d.Restart()
	holds(t, d, 0, "abccc", 5)
	holds(t, d, 1, "d", 1)
	is(t, "Append of what the loss made room for", d.Append(0, make([]byte, api.MaxFile-5)), api.OK)
}

func TestTruncateMakesRoom(t *testing.T) {
	d := newDisk(t, 1)
	d.Append(0, make([]byte, api.MaxFile))
	is(t, "Truncate", d.Truncate(0, api.MaxFile-1), api.OK)
	is(t, "Append of two", d.Append(0, []byte("ab")), api.ErrFull)
	is(t, "Append of one", d.Append(0, []byte("a")), api.OK)
	b, e := d.Read(0, api.MaxFile-2, 2)
	if e != api.OK || string(b) != "\x00a" {
		t.Fatalf("Read: %q, %d", b, e)
	}
}

func TestBytesHandedInStayAsTheyAre(t *testing.T) {
	d := newDisk(t, 1)
	room := []byte("abcdefgh")
	b := room[2:5]
	d.Append(0, b)
	d.Append(0, []byte("XY"))
	d.Sync(0)
	d.Append(0, []byte("Z"))
	if string(room) != "abcdefgh" {
		t.Fatalf("what was handed in is %q", room)
	}
	copy(room, "........")
	holds(t, d, 0, "cdeXYZ", 5)
}

func TestBytesToldAreTheCallers(t *testing.T) {
	d := newDisk(t, 1)
	d.Append(0, []byte("abcdef"))
	d.Truncate(0, 4) // there is room behind the file's bytes
	one, _ := d.Read(0, 1, 2)
	two, _ := d.Read(0, 1, 2)
	for i := range one[:cap(one)] {
		one[:cap(one)][i] = '.'
	}
	if string(two) != "bc" {
		t.Fatalf("the other answer is %q", two)
	}
	holds(t, d, 0, "abcd", 0)
	d.Append(0, []byte("gh"))
	_ = append(two, "...."...)
	holds(t, d, 0, "abcdgh", 0)
	d.Truncate(0, 0)
	d.Append(0, []byte("ijklmn"))
	if string(two) != "bc" {
		t.Fatalf("an answer was written into: %q", two)
	}
}

func TestDisksApart(t *testing.T) {
	one, two := newDisk(t, 2), newDisk(t, 2)
	one.Append(0, []byte("a"))
	one.Fuse(0, nil)
	is(t, "Append to the other disk", two.Append(0, []byte("bc")), api.OK)
	one.Crash(nil)
	if !two.Alive() || two.Falls() != 0 {
		t.Fatal("the other disk's power")
	}
	holds(t, two, 0, "bc", 0)
}
