package wal

import (
	"bytes"
	"encoding/binary"
	"math"
	"math/rand"
	"testing"

	"turnkey/api"
	"turnkey/disk"
)

func TestOpenWithoutFilesOrPower(t *testing.T) {
	one, _ := disk.New(1)
	one.Append(0, headed(1, 1024, 4, "ab"))
	refused(t, "a disk of one file", one, api.ErrFormat)
	one.Crash(nil)
	refused(t, "a disk of one file that is off", one, api.ErrDead)
	for what, d := range map[string]*disk.Disk{
		"a log":           formatted(t, 1024, 4, "ab"),
		"a new disk":      holding(t),
		"two same heads":  holding(t, headed(1, 1024, 4, ""), headed(1, 1024, 4, "")),
		"a torn-off tail": holding(t, append(headed(1, 1024, 4, ""), 1, 2, 3), []byte("x")),
	} {
		d.Crash(nil)
		refused(t, what+", off", d, api.ErrDead)
	}
}

// Where a log lies in other files of the disk, it is none.
func TestOpenLooksAtTwoFilesAlone(t *testing.T) {
	refused(t, "a log in the file 2", holding(t, nil, nil, headed(1, 1024, 4, "ab")), api.ErrFormat)
	d := holding(t, nil, headed(5, 1024, 4, "ab"), headed(6, 1024, 4, "no"), []byte("x"))
	was := d.Copy()
	l := opened(t, d, "ab")
	is(t, "Append", l.Append([]byte("r")), api.OK)
	is(t, "Checkpoint", l.Checkpoint([]byte("cd")), api.OK)
	for f := 2; f < 4; f++ {
		if d.Size(f) != was.Size(f) {
			t.Fatalf("the file %d has %d bytes", f, d.Size(f))
		}
	}
}

// dataOf: the data of a head.
func dataOf(head []byte) []byte { return head[5 : len(head)-4] }

// notLogs: files that are no log files, each by one thing alone.
func notLogs() map[string][]byte {
	head := headed(1, 1024, 4, "ab")
	data := dataOf(head)
	other := bytes.Clone(data)
	other[7] = '2'
	upper := bytes.Clone(data)
	upper[0] = 'T'
	return map[string][]byte{
		"nothing":               {},
		"noughts":               make([]byte, 64),
		"a head cut off":        head[:len(head)-1],
		"a head's first bytes":  head[:4],
		"a byte ahead":          append([]byte{0}, head...),
		"a record ahead":        append(framed(2, nil), head...),
		"a record alone":        framed(2, data),
		"the kind 0":            framed(0, data),
		"the kind 3":            framed(3, data),
		"the kind 255":          framed(255, data),
		"23 bytes":              framed(1, data[:23]),
		"8 bytes":               framed(1, data[:8]),
		"7 bytes":               framed(1, data[:7]),
		"no bytes":              framed(1, nil),
		"another mark":          framed(1, other),
		"a mark of great ones":  framed(1, upper),
		"the generation 0":      headed(0, 1024, 4, "ab"),
		"a cap of 0":            headed(1, 0, 4, "ab"),
		"a cap of 1023":         headed(1, 1023, 4, "ab"),
		"a cap above MaxLog":    headed(1, mostLog+1, 4, "ab"),
		"a cap of 2^31":         headed(1, 1<<31, 4, "ab"),
		"a cap below 0":         headed(1, math.MaxUint32-1023, 4, "ab"),
		"the greatest cap":      headed(1, math.MaxUint32, 4, "ab"),
		"no slots":              headed(1, 1024, 0, "ab"),
		"slots above MaxSlots":  headed(1, 1024, 65537, "ab"),
		"slots below 0":         headed(1, 1024, math.MaxUint32, "ab"),
		"great generation, 0s":  headed(1<<63, 1024, 0, "ab"),
		"great generation, cap": headed(math.MaxUint64, 1023, 1, "ab"),
	}
}

func TestOpenOfNoLogFile(t *testing.T) {
	log := rowOf(headed(3, 1024, 4, "ab"), "r")
	for what, none := range notLogs() {
		for what2, none2 := range notLogs() {
			refused(t, what+" and "+what2, holding(t, none, none2), api.ErrFormat)
		}
		d := holding(t, none, log)
		opened(t, d, "ab", "r")
		holds(t, "behind Open beside "+what, d, nil, log)
		d = holding(t, log, none)
		opened(t, d, "ab", "r")
		holds(t, "behind Open beside "+what, d, log, nil)
	}
	head := headed(3, 1024, 4, "ab")
	for i := range head {
		turned := bytes.Clone(head)
		turned[i] ^= 1
		refused(t, "a head with a byte turned", holding(t, turned), api.ErrFormat)
		refused(t, "a head with a byte turned", holding(t, nil, turned), api.ErrFormat)
	}
}

func TestOpenOfHeadsAtTheEdges(t *testing.T) {
	for _, generation := range []uint64{1, 2, 255, 256, 1<<32 - 1, 1 << 32, 1<<56 + 5, 1<<63 - 1} {
		for _, size := range []uint32{1024, 1025, 65535, 65536, mostLog - 1, mostLog} {
			for _, slots := range []uint32{1, 2, 255, 256, 65535, 65536} {
				for f := range 2 {
					rows := [][]byte{nil, nil}
					rows[f] = headed(generation, size, slots, "")
					says(t, opened(t, holding(t, rows...), ""), 33, int(size), int(slots), generation)
				}
			}
		}
	}
}

func TestOpenTakesTheGreaterGeneration(t *testing.T) {
	generations := []uint64{1, 2, 3, 255, 256, 1<<32 - 1, 1 << 32, 1<<62 + 1, 1<<63 - 1, 1 << 63, 1<<63 + 1, math.MaxUint64}
	for _, zero := range generations {
		for _, one := range generations {
			a, b := rowOf(headed(zero, 1024, 4, "zero"), "a"), rowOf(headed(one, 2048, 5, "one"), "b", "c")
			d := holding(t, a, b)
			switch {
			case zero == one:
				refused(t, "two of one generation", d, api.ErrBroken)
			case max(zero, one) >= 1<<63:
				refused(t, "a generation of 2^63 or above", d, api.ErrBroken)
			case zero > one:
				says(t, opened(t, d, "zero", "a"), len(a), 1024, 4, zero)
				holds(t, "behind Open", d, a, nil)
			default:
				says(t, opened(t, d, "one", "b", "c"), len(b), 2048, 5, one)
				holds(t, "behind Open", d, nil, b)
			}
		}
	}
}

func TestOpenOfOneGreatGeneration(t *testing.T) {
	for _, generation := range []uint64{1 << 63, 1<<63 + 1, math.MaxUint64} {
		refused(t, "a generation of 2^63 or above", holding(t, headed(generation, 1024, 4, "")), api.ErrBroken)
		refused(t, "a generation of 2^63 or above", holding(t, []byte("x"), headed(generation, 1024, 4, "")), api.ErrBroken)
	}
}

func TestOpenOfOtherKindsBehindTheHead(t *testing.T) {
	head := headed(2, 1024, 4, "ab")
	for kind := range 256 {
		for _, records := range [][]string{nil, {"r", ""}} {
			row := append(rowOf(head, records...), framed(byte(kind), []byte("k"))...)
			row = rowOf(row, "behind")
			d := holding(t, row, []byte("x"))
			if kind != 2 {
				refused(t, "another kind behind the head", d, api.ErrBroken)
				// In the file that is not the live one nobody minds.
				newer := headed(3, 1024, 4, "newer")
				opened(t, holding(t, row, newer), "newer")
				continue
			}
			opened(t, d, "ab", append(append([]string{}, records...), "k", "behind")...)
		}
	}
	// A frame that is not whole is not asked for its kind; nor is one behind it.
	d := holding(t, append(append(rowOf(head, "r"), framed(3, nil)[:8]...), framed(3, nil)...))
	opened(t, d, "ab", "r")
	holds(t, "behind Open", d, rowOf(head, "r"))
}

func TestOpenHoldsTheFramesAgainstTheCap(t *testing.T) {
	head := headed(1, 1024, 4, "ab") // 35 bytes
	text := string(make([]byte, 2000))
	full := rowOf(head, text[:500], text[:471])
	if len(full) != 1024 {
		t.Fatalf("%d bytes", len(full))
	}
	for _, tail := range [][]byte{nil, {2}, framed(2, []byte("x"))[:9], make([]byte, 3000), append([]byte{2}, framed(3, nil)...)} {
		d := holding(t, append(bytes.Clone(full), tail...))
		l := opened(t, d, "ab", text[:500], text[:471])
		says(t, l, 1024, 1024, 4, 1)
		holds(t, "behind Open of a full log", d, full)
	}
	for what, row := range map[string][]byte{
		"one byte too many":       rowOf(head, text[:500], text[:472]),
		"a record too many":       rowOf(full, ""),
		"far too many":            rowOf(head, text),
		"a head of 1025 bytes":    headed(1, 1024, 4, text[:992]),
		"a head of too many":      headed(1, 1024, 4, text),
		"that, and a torn tail":   append(headed(1, 1024, 4, text[:992]), 2, 0),
		"a full head, one record": rowOf(headed(1, 1024, 4, text[:991]), ""),
	} {
		refused(t, what, holding(t, row), api.ErrBroken)
		refused(t, what, holding(t, headed(0, 1024, 4, ""), row), api.ErrBroken)
		opened(t, holding(t, headed(2, 1024, 4, "newer"), row), "newer")
	}
	says(t, opened(t, holding(t, headed(1, 1024, 4, text[:991])), text[:991]), 1024, 1024, 4, 1)
	says(t, opened(t, holding(t, headed(1, 1025, 4, text[:992])), text[:992]), 1025, 1025, 4, 1)
}

func TestOpenOfTheGreatest(t *testing.T) {
	state := string(bytes.Repeat([]byte("s"), mostLog-33))
	says(t, opened(t, holding(t, headed(1, mostLog, 4, state)), state), mostLog, mostLog, 4, 1)
	refused(t, "a head of a byte above MaxLog", holding(t, headed(1, mostLog, 4, state+"s")), api.ErrBroken)
	refused(t, "the greatest frame as a head", holding(t, headed(1, mostLog, 4, state+"sssssssss")), api.ErrBroken)
	refused(t, "a head that is no frame", holding(t, headed(1, mostLog, 4, state+"ssssssssss")), api.ErrFormat)
	row := append(headed(1, mostLog, 4, "ab"), make([]byte, 16777216-35)...)
	d := holding(t, row)
	opened(t, d, "ab")
	holds(t, "behind Open of a full file", d, row[:35])
}

// Each op is seen by a fuse at it: what is not there to be cut is not cut.
func TestOpensSteps(t *testing.T) {
	log := rowOf(headed(2, 1024, 4, "ab"), "r", "")
	older := rowOf(headed(1, 2048, 5, "older"), "o")
	for _, tail := range []string{"", "\x02", "a tail of many bytes"} {
		for _, other := range [][]byte{nil, {0}, older} {
			ops := 0
			torn := append(bytes.Clone(log), tail...)
			steps := [][2][]byte{{torn, other}} // how the files are behind so many ops
			if tail != "" {
				ops++
				steps = append(steps, [2][]byte{log, other})
			}
			if len(other) > 0 {
				ops++
				steps = append(steps, [2][]byte{log, nil})
			}
			for live := range 2 {
				for fuse := range ops + 2 {
					opensInSteps(t, live, fuse, steps)
				}
			}
		}
	}
}

func opensInSteps(t *testing.T, live, fuse int, steps [][2][]byte) {
	t.Helper()
	rows := func(step int) [][]byte {
		out := [][]byte{nil, nil}
		out[live], out[1-live] = steps[step][0], steps[step][1]
		return out
	}
	d := holding(t, rows(0)...)
	d.Fuse(fuse, []int{99, 99})
	ops := len(steps) - 1
	if fuse >= ops {
		opened(t, d, "ab", "r", "")
	} else if l, s, r, e := Open(d); l != nil || s != nil || r != nil || e != api.ErrDead {
		t.Fatalf("Open, fuse %d of %d: %v, %q, %q, %d", fuse, ops, l, s, r, e)
	}
	if d.Alive() != (fuse >= ops) {
		t.Fatalf("Open, fuse %d of %d: alive %v", fuse, ops, d.Alive())
	}
	holds(t, "behind Open with a fuse", d, rows(min(fuse, ops))...)
	d.Restart()
	for range 2 {
		opened(t, d, "ab", "r", "")
		holds(t, "opened again", d, rows(ops)...)
	}
	d.Crash(nil)
	d.Restart()
	opened(t, d, "ab", "r", "")
}

// Nothing but what is cut is written: loose bytes stay loose.
func TestOpenSyncsNothing(t *testing.T) {
	d, _ := disk.New(2)
	row := rowOf(headed(1, 1024, 4, "ab"), "r")
	d.Append(0, append(row, 1, 2))
	opened(t, d, "ab", "r")
	if d.Size(0) != len(row) || d.Lasts(0) != 0 {
		t.Fatalf("the file 0 has %d bytes, of which %d last", d.Size(0), d.Lasts(0))
	}
}

// A whole frame that stands behind a torn one is cut off with it, and never comes back.
func TestWhatWasCutOffStaysAway(t *testing.T) {
	head := headed(1, 1024, 4, "ab")
	ghost := framed(2, []byte("ghost"))
	for n := 1; n < 12; n++ {
		torn := framed(2, []byte("new"))[:n]
		d := holding(t, append(append(bytes.Clone(head), torn...), ghost...))
		l := opened(t, d, "ab")
		d.Fuse(0, []int{n})
		is(t, "Append", l.Append([]byte("new")), api.ErrDead)
		d.Restart()
		l = opened(t, d, "ab")
		is(t, "Append", l.Append([]byte("new")), api.OK)
		opened(t, d, "ab", "new")
	}
}

func TestOpensAnswersAreTheCallers(t *testing.T) {
	row := rowOf(headed(1, 1024, 4, "state"), "one", "", "three")
	d := holding(t, row)
	_, s, r, _ := Open(d)
	l, s2, r2, _ := Open(d)
	scribble(s)
	for i := range r {
		scribble(r[i])
	}
	clear(r)
	if string(s2) != "state" || !same(r2, []string{"one", "", "three"}) {
		t.Fatalf("behind writing into what was answered: %q, %q", s2, r2)
	}
	for i := range r2 {
		scribble(r2[i])
		for k := i + 1; k < len(r2); k++ {
			if len(r2[k]) > 0 && string(r2[k]) != "three" {
				t.Fatalf("the records %d and %d share memory", i, k)
			}
		}
	}
	scribble(s2)
	says(t, l, len(row), 1024, 4, 1)
	holds(t, "behind writing into what was answered", d, row)
	opened(t, d, "state", "one", "", "three")
}

// scribble writes over a list and its spare room, as its owner may.
func scribble(b []byte) {
	b = b[:cap(b)]
	for i := range b {
		b[i] = '#'
	}
}

// plainFrames: the frames with which bytes begin, each read by the library's sum.
func plainFrames(b []byte) (kinds []byte, datas []string, size int) {
	for len(b)-size >= 9 {
		rest := b[size:]
		n := int(binary.LittleEndian.Uint32(rest[1:]))
		if n > len(rest)-9 || !bytes.Equal(framed(rest[0], rest[5:5+n]), rest[:n+9]) {
			return kinds, datas, size
		}
		kinds, datas, size = append(kinds, rest[0]), append(datas, string(rest[5:5+n])), size+n+9
	}
	return kinds, datas, size
}

// plainHead: generation, cap and state of a log file; the generation 0 of another.
func plainHead(b []byte) (uint64, int, string) {
	kinds, datas, _ := plainFrames(b)
	if len(kinds) == 0 || kinds[0] != 1 || len(datas[0]) < 24 || datas[0][:8] != "turnkey1" {
		return 0, 0, ""
	}
	data := []byte(datas[0])
	generation, size, slots := binary.LittleEndian.Uint64(data[8:]), binary.LittleEndian.Uint32(data[16:]), binary.LittleEndian.Uint32(data[20:])
	if size < 1024 || size > mostLog || slots < 1 || slots > 65536 {
		return 0, 0, ""
	}
	return generation, int(size), string(data[24:])
}

// plainOpen: Open by the chapter's words.
func plainOpen(rows [2][]byte) (state string, records []string, live, size int, e api.Errno) {
	zero, _, _ := plainHead(rows[0])
	one, _, _ := plainHead(rows[1])
	if zero == 0 && one == 0 {
		return "", nil, 0, 0, api.ErrFormat
	}
	if zero == one {
		return "", nil, 0, 0, api.ErrBroken
	}
	if one > zero {
		live = 1
	}
	generation, most, state := plainHead(rows[live])
	kinds, datas, size := plainFrames(rows[live])
	if generation >= 1<<63 || size > most {
		return "", nil, 0, 0, api.ErrBroken
	}
	for _, kind := range kinds[1:] {
		if kind != 2 {
			return "", nil, 0, 0, api.ErrBroken
		}
	}
	return state, datas[1:], live, size, api.OK
}

// someRow: bytes that are nearly always almost a log file.
func someRow(r *rand.Rand) []byte {
	generations := []uint64{0, 1, 2, 3, 3, 4, 5, 6, 7, 1<<63 - 1, 1 << 63}
	sizes := []uint32{1023, 1024, 1024, 1024, 1024, 2048, mostLog, mostLog + 1}
	slots := []uint32{0, 1, 2, 4, 65536, 65536, 65537}
	state := make([]byte, []int{0, 1, 5, 500, 900, 991, 992}[r.Intn(7)])
	row := headed(generations[r.Intn(len(generations))], sizes[r.Intn(len(sizes))], slots[r.Intn(len(slots))], string(state))
	for range r.Intn(4) {
		kind := byte(2)
		if r.Intn(12) == 0 {
			kind = byte(r.Intn(5))
		}
		row = append(row, framed(kind, make([]byte, r.Intn(60)))...)
	}
	switch r.Intn(6) {
	case 0:
		row = row[:r.Intn(len(row))]
	case 1:
		row[r.Intn(len(row))] ^= byte(1 << r.Intn(8))
	case 2:
		row = append(row, make([]byte, r.Intn(30))...)
	}
	return row
}

func TestOpenOfNoise(t *testing.T) {
	r := rand.New(rand.NewSource(1))
	ends := map[api.Errno]int{}
	for range 6000 {
		rows := [2][]byte{someRow(r), someRow(r)}
		if r.Intn(4) == 0 {
			rows[r.Intn(2)] = make([]byte, r.Intn(3))
		}
		state, records, live, size, want := plainOpen(rows)
		ends[want]++
		d := holding(t, rows[0], rows[1])
		if want != api.OK {
			refused(t, "noise", d, want)
			continue
		}
		if l := opened(t, d, state, records...); l.Bytes() != size {
			t.Fatalf("Bytes: %d, want %d", l.Bytes(), size)
		}
		left := [2][]byte{}
		left[live] = rows[live][:size]
		holds(t, "behind Open of noise", d, left[0], left[1])
	}
	for _, e := range []api.Errno{api.OK, api.ErrFormat, api.ErrBroken} {
		if ends[e] < 200 {
			t.Errorf("%d ends of %d: the noise is not of all kinds", ends[e], e)
		}
	}
}
