package wal

import (
	"bytes"
	"math"
	"math/rand"
	"strings"
	"testing"

	"turnkey/api"
	"turnkey/disk"
)

func TestAppend(t *testing.T) {
	d := formatted(t, 1024, 4, "")
	l := opened(t, d, "")
	var records []string
	size := 33
	for _, n := range []int{0, 1, 255, 256, 300, 0} {
		record := strings.Repeat("r", n)
		is(t, "Append", l.Append([]byte(record)), api.OK)
		records = append(records, record)
		size += n + 9
		says(t, l, size, 1024, 4, 1)
		holds(t, "behind Append", d, rowOf(headed(1, 1024, 4, ""), records...))
	}
	left := 1024 - size - 9
	if !l.Fits(left) || l.Fits(left+1) {
		t.Fatalf("Fits(%d): %v; Fits(%d): %v", left, l.Fits(left), left+1, l.Fits(left+1))
	}
	was := d.Copy()
	d.Fuse(0, nil)
	is(t, "Append of a byte too many", l.Append(make([]byte, left+1)), api.ErrLog)
	is(t, "Append of far too many", l.Append(make([]byte, mostLog+1)), api.ErrLog)
	if !d.Alive() {
		t.Fatal("Append was refused, but an op was done")
	}
	alike(t, "behind an Append that was refused", d, was)
	d.Restart()
	is(t, "Append of what just fits", l.Append(make([]byte, left)), api.OK)
	says(t, l, 1024, 1024, 4, 1)
	is(t, "Append of nothing to a full log", l.Append(nil), api.ErrLog)
	opened(t, d, "", append(records, string(make([]byte, left)))...)
}

func TestFits(t *testing.T) {
	l := opened(t, formatted(t, mostLog, 4, ""), "")
	for n, want := range map[int]bool{
		0: true, 1: true, 1024: true, mostLog - 42: true, mostLog - 41: false, mostLog: false, mostLog + 1: false,
		-1: false, -9: false, -10: false, -42: false, math.MinInt: false, math.MaxInt: false, math.MaxInt - 9: false, math.MaxInt - 42: false, 1 << 32: false,
	} {
		if l.Fits(n) != want {
			t.Errorf("Fits(%d): %v", n, !want)
		}
	}
	is(t, "Append of what just fits", l.Append(make([]byte, mostLog-42)), api.OK)
	if l.Bytes() != mostLog || l.Fits(0) {
		t.Errorf("a full log: Bytes %d, Fits(0) %v", l.Bytes(), l.Fits(0))
	}
}

// Each step is seen by a fuse at the one behind it.
func TestAppendsSteps(t *testing.T) {
	row := rowOf(headed(1, 1024, 4, "ab"), "old")
	record := framed(2, []byte("xyz"))
	for ops := range 4 {
		for _, keep := range []int{-1, 0, 1, 4, 5, 8, 11, 12, 13, math.MaxInt} {
			for live := range 2 {
				rows := [][]byte{nil, nil}
				rows[live] = row
				d := holding(t, rows...)
				l := opened(t, d, "ab", "old")
				d.Fuse(ops, []int{keep, keep})
				kept, want := 12, api.OK
				if ops < 2 {
					kept, want = min(max(keep, 0), 12), api.ErrDead
				}
				is(t, "Append with a fuse", l.Append([]byte("xyz")), want)
				rows[live] = append(bytes.Clone(row), record[:kept]...)
				holds(t, "behind Append with a fuse", d, rows...)
				d.Restart()
				records := []string{"old"}
				if kept == 12 {
					records = append(records, "xyz")
				}
				opened(t, d, "ab", records...)
			}
		}
	}
}

func TestCheckpoint(t *testing.T) {
	d := formatted(t, 1024, 4, "ab")
	l := opened(t, d, "ab")
	rows := [][]byte{nil, nil}
	for i, n := range []int{0, 1, 500, 979, 0, 256} {
		is(t, "Append", l.Append([]byte("old")), api.OK)
		state := strings.Repeat("s", n)
		is(t, "Checkpoint", l.Checkpoint([]byte(state)), api.OK)
		generation := uint64(i + 2)
		says(t, l, n+33, 1024, 4, generation)
		rows[(i+1)%2], rows[i%2] = headed(generation, 1024, 4, state), nil
		holds(t, "behind Checkpoint", d, rows...)
	}
}

func TestCheckpointOfTooMuch(t *testing.T) {
	for _, size := range []int{1024, 1025, 65536, mostLog} {
		d := formatted(t, size, 4, "ab")
		l := opened(t, d, "ab")
		is(t, "Append", l.Append([]byte("xyz")), api.OK)
		was := d.Copy()
		d.Fuse(0, nil)
		for _, n := range []int{size - 32, size - 24, size - 23, size, size + 1, 2 * size} {
			is(t, "Checkpoint of too much", l.Checkpoint(make([]byte, n)), api.ErrLog)
			says(t, l, 47, size, 4, 1)
		}
		if !d.Alive() {
			t.Fatal("Checkpoint was refused, but an op was done")
		}
		alike(t, "behind a Checkpoint that was refused", d, was)
		d.Restart()
		is(t, "Checkpoint of what just fits", l.Checkpoint(make([]byte, size-33)), api.OK)
		says(t, l, size, size, 4, 2)
		is(t, "Append to a full log", l.Append(nil), api.ErrLog)
		opened(t, d, string(make([]byte, size-33)))
		is(t, "Checkpoint of a full log", l.Checkpoint([]byte("q")), api.OK)
		says(t, l, 34, size, 4, 3)
		is(t, "Append", l.Append([]byte("xyz")), api.OK)
		opened(t, d, "q", "xyz")
	}
}

// Each step is seen by a fuse at the one behind it.
func TestCheckpointsSteps(t *testing.T) {
	row, head := rowOf(headed(5, 1024, 4, "ab"), "old", ""), headed(6, 1024, 4, "new")
	for ops := range 6 {
		for _, keep := range []int{-1, 0, 1, 9, 33, 35, 36, 37, math.MaxInt} {
			for live := range 2 {
				rows := [][]byte{nil, nil}
				rows[live] = row
				d := holding(t, rows...)
				l := opened(t, d, "ab", "old", "")
				d.Fuse(ops, []int{keep, keep})
				kept, want := len(head), api.OK
				switch ops {
				case 0:
					kept, want = 0, api.ErrDead
				case 1, 2:
					kept, want = min(max(keep, 0), len(head)), api.ErrDead
				case 3:
					want = api.ErrDead
				default:
					rows[live] = nil
				}
				is(t, "Checkpoint with a fuse", l.Checkpoint([]byte("new")), want)
				rows[1-live] = head[:kept]
				holds(t, "behind Checkpoint with a fuse", d, rows...)
				d.Restart()
				if kept == len(head) {
					says(t, opened(t, d, "new"), 36, 1024, 4, 6)
				} else {
					says(t, opened(t, d, "ab", "old", ""), len(row), 1024, 4, 5)
				}
			}
		}
	}
}

// What somebody left in the other file does not stand ahead of the new head: its Truncate is the first op, also if there is nothing to cut.
func TestCheckpointsFirstTruncate(t *testing.T) {
	d := formatted(t, 1024, 4, "ab")
	l := opened(t, d, "ab")
	d.Append(1, []byte("junk"))
	is(t, "Checkpoint", l.Checkpoint([]byte("q")), api.OK)
	holds(t, "behind Checkpoint", d, nil, headed(2, 1024, 4, "q"))
}

// The last generation that is opened has a next one, which is written, and opened no more.
func TestTheLastGeneration(t *testing.T) {
	d := holding(t, headed(1<<63-1, 1024, 4, "ab"))
	l := opened(t, d, "ab")
	is(t, "Checkpoint", l.Checkpoint([]byte("q")), api.OK)
	says(t, l, 34, 1024, 4, 1<<63)
	is(t, "Append", l.Append(nil), api.OK)
	refused(t, "a generation of 2^63", d, api.ErrBroken)
}

// isDead fails if a log is not dead: it does nothing more, and says what its head says alone.
func isDead(t *testing.T, l *Log, d *disk.Disk, size, slots int, generation uint64) {
	t.Helper()
	was := d.Copy()
	says(t, l, 0, size, slots, generation)
	is(t, "Append to a dead log", l.Append([]byte("r")), api.ErrDead)
	is(t, "Append of too much to a dead log", l.Append(make([]byte, size)), api.ErrDead)
	is(t, "Checkpoint of a dead log", l.Checkpoint(nil), api.ErrDead)
	is(t, "Checkpoint of too much, of a dead log", l.Checkpoint(make([]byte, size)), api.ErrDead)
	// Bytes is 0, and so the whole cap is room.
	if !l.Fits(0) || !l.Fits(size-9) || l.Fits(size-8) || l.Fits(-1) {
		t.Fatal("Fits of a dead log")
	}
	alike(t, "what was asked of a dead log", d, was)
}

func TestDead(t *testing.T) {
	d := formatted(t, 1024, 4, "ab")
	l := opened(t, d, "ab")
	is(t, "Append", l.Append([]byte("r")), api.OK)
	d.Crash(nil)
	isDead(t, l, d, 1024, 4, 1)
	d.Restart()
	isDead(t, l, d, 1024, 4, 1)
	again := opened(t, d, "ab", "r")
	isDead(t, l, d, 1024, 4, 1)
	is(t, "Append to the log that was opened since", again.Append([]byte("s")), api.OK)
	isDead(t, l, d, 1024, 4, 1)
	d.Restart() // the power was on: nothing fell
	is(t, "Append behind a Restart alone", again.Append([]byte("t")), api.OK)
	opened(t, d, "ab", "r", "s", "t")
}

func TestDeadByAFuse(t *testing.T) {
	for ops := range 4 {
		d := formatted(t, 1024, 4, "ab")
		l := opened(t, d, "ab")
		is(t, "Checkpoint", l.Checkpoint([]byte("cd")), api.OK)
		d.Fuse(ops, []int{99, 99})
		is(t, "Checkpoint with a fuse", l.Checkpoint([]byte("q")), api.ErrDead)
		isDead(t, l, d, 1024, 4, 2)
		d.Restart()
		isDead(t, l, d, 1024, 4, 2)
	}
	for ops := range 2 {
		d := formatted(t, 1024, 4, "ab")
		l := opened(t, d, "ab")
		d.Fuse(ops, nil)
		is(t, "Append with a fuse", l.Append([]byte("q")), api.ErrDead)
		isDead(t, l, d, 1024, 4, 1)
	}
}

func TestLogsAreApart(t *testing.T) {
	one := formatted(t, 1024, 4, "ab")
	other := one.Copy()
	a, b := opened(t, one, "ab"), opened(t, other, "ab")
	is(t, "Append", a.Append([]byte("r")), api.OK)
	is(t, "Checkpoint", b.Checkpoint([]byte("q")), api.OK)
	one.Crash(nil)
	says(t, a, 0, 1024, 4, 1)
	says(t, b, 34, 1024, 4, 2)
	one.Restart()
	opened(t, one, "ab", "r")
	opened(t, other, "q")
}

func TestNothingHandedInIsKept(t *testing.T) {
	d := formatted(t, 1024, 4, "ab")
	l := opened(t, d, "ab")
	room := []byte("stateXrecordX")
	state, record := room[:5], room[6:12]
	is(t, "Checkpoint", l.Checkpoint(state), api.OK)
	is(t, "Append", l.Append(record), api.OK)
	if string(room) != "stateXrecordX" {
		t.Fatalf("what was handed in was written into: %q", room)
	}
	clear(room)
	opened(t, d, "state", "record")
}

// plainLog: what lasts, by the chapter's words.
type plainLog struct {
	state      string
	records    []string
	generation uint64
	live       int
}

func (p *plainLog) size() int {
	n := len(p.state) + 33
	for _, r := range p.records {
		n += len(r) + 9
	}
	return n
}

// appends: an Append, of which so many ops go; what is told is whether the power stayed on.
func (p *plainLog) appends(record string, ops int, keep []int) bool {
	if ops > 1 || keep[p.live] >= len(record)+9 {
		p.records = append(p.records, record)
	}
	return ops > 1
}

// checkpoints: so for a Checkpoint.
func (p *plainLog) checkpoints(state string, ops int, keep []int) bool {
	if ops > 2 || ops > 0 && keep[1-p.live] >= len(state)+33 {
		p.state, p.records, p.generation, p.live = state, nil, p.generation+1, 1-p.live
	}
	return ops > 3
}

// run: one log and the plain one, to which the same befalls.
type run struct {
	t *testing.T
	r *rand.Rand
	d *disk.Disk
	l *Log
	p *plainLog
}

// opens: Open, once or often, with the power failing in it now and then.
func (w *run) opens() {
	w.t.Helper()
	for range w.r.Intn(3) {
		w.d.Fuse(w.r.Intn(2), []int{w.r.Intn(60), w.r.Intn(60)})
		Open(w.d)
		w.d.Restart()
	}
	w.l = opened(w.t, w.d, w.p.state, w.p.records...)
	if w.d.Size(w.p.live) != w.p.size() || w.d.Size(1-w.p.live) != 0 {
		w.t.Fatalf("behind Open: %d and %d bytes; want %d in the file %d", w.d.Size(0), w.d.Size(1), w.p.size(), w.p.live)
	}
}

// step: an Append or a Checkpoint, with a fuse now and then.
func (w *run) step() {
	w.t.Helper()
	ops, keep := 99, []int{w.r.Intn(80), w.r.Intn(80)}
	if w.r.Intn(4) == 0 {
		ops = w.r.Intn(5)
	}
	w.d.Fuse(ops, keep)
	text := strings.Repeat(string(rune('a'+w.r.Intn(26))), w.r.Intn(40))
	if w.r.Intn(30) == 0 {
		text = strings.Repeat("!", w.r.Intn(1100))
	}
	on, got := true, api.OK
	want := api.OK
	if w.r.Intn(6) > 0 {
		if w.p.size()+len(text)+9 > 1024 {
			want = api.ErrLog
		} else {
			on = w.p.appends(text, ops, keep)
		}
		got = w.l.Append([]byte(text))
	} else {
		if len(text)+33 > 1024 {
			want = api.ErrLog
		} else {
			on = w.p.checkpoints(text, ops, keep)
		}
		got = w.l.Checkpoint([]byte(text))
	}
	if !on {
		want = api.ErrDead
	}
	is(w.t, "a step", got, want)
	w.d.Restart()
	if !on {
		if w.l.Bytes() != 0 {
			w.t.Fatal("a log whose power has failed is not dead")
		}
		w.opens()
	}
	says(w.t, w.l, w.p.size(), 1024, 4, w.p.generation)
}

func TestWhatLasts(t *testing.T) {
	for seed := range int64(150) {
		r := rand.New(rand.NewSource(seed))
		w := &run{t: t, r: r, d: formatted(t, 1024, 4, "ab"), p: &plainLog{state: "ab", generation: 1}}
		w.opens()
		for range 120 {
			w.step()
			switch r.Intn(12) {
			case 0:
				w.opens()
			case 1:
				w.d.Crash([]int{r.Intn(60), r.Intn(60)})
				w.d.Restart()
				w.opens()
			}
		}
		w.opens()
	}
}
