package wal

import (
	"turnkey/api"
	"turnkey/disk"
	"turnkey/frame"
)

// endOfGenerations is where a log is broken: from below it nobody comes to the end of 64 bits.
const endOfGenerations = 1 << 63

// found is what lies in a file, up to the first thing that is wrong with it.
type found struct {
	head    head // zero, if it is no log file
	state   []byte
	records [][]byte
	whole   int // how many bytes its frames have
	wrong   api.Errno
}

// Open finds a log: its state and its records (F2).
func Open(d *disk.Disk) (l *Log, state []byte, records [][]byte, e api.Errno) {
	live, in, e := find(d)
	if e == api.OK {
		e = cutRest(d, live, in.whole)
	}
	if e != api.OK {
		return nil, nil, nil, e
	}
	return &Log{disk: d, falls: d.Falls(), live: live, head: in.head}, in.state, in.records, api.OK
}

// find is the live file of a disk, and what lies in it.
func find(d *disk.Disk) (live int, in found, e api.Errno) {
	if !d.Alive() {
		return 0, found{}, api.ErrDead
	}
	if !hasFiles(d) {
		return 0, found{}, api.ErrFormat
	}
	var files [2]found
	for f := range files {
		b, e := d.Read(f, 0, d.Size(f))
		if e != api.OK {
			return 0, found{}, e
		}
		files[f] = look(b)
	}
	// A file that is no log file has the generation 0, which is below those of all that are.
	zero, one := files[0].head.generation, files[1].head.generation
	if zero == one && zero > 0 {
		return 0, found{}, api.ErrBroken
	}
	if one > zero {
		live = 1
	}
	if e := files[live].wrong; e != api.OK {
		return 0, found{}, e
	}
	return live, files[live], api.OK
}

// look goes through the whole frames of a file, and leaves them at the first thing that is wrong.
func look(b []byte) found {
	in := found{wrong: api.ErrFormat} // so it stays, if there is no frame at all
frames:
	for kind, data := range frame.Scan(b) {
		first := in.whole == 0
		in.whole += frame.Size(len(data))
		switch {
		case first:
			said, state, ok := headOf(kind, data)
			if !ok {
				break frames
			}
			in.head, in.state, in.wrong = said, state, api.OK
		case kind != recordKind:
			in.wrong = api.ErrBroken
			break frames
		default:
			in.records = append(in.records, data)
		}
		if in.whole > in.head.cap || in.head.generation >= endOfGenerations {
			in.wrong = api.ErrBroken
			break frames
		}
	}
	return in
}

// cutRest cuts off all that lies in the two files beside the live one's whole frames; what is not there needs no op.
func cutRest(d *disk.Disk, live int, whole int) api.Errno {
	if d.Size(live) > whole {
		if e := d.Truncate(live, whole); e != api.OK {
			return e
		}
	}
	other := 1 - live
	if d.Size(other) > 0 {
		return d.Truncate(other, 0)
	}
	return api.OK
}
