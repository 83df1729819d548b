package disk

import (
	"bytes"
	"testing"

	"turnkey/api"
)

// cell: a byte of a file, which knows of itself whether it lasts: apart from the program, which counts.
type cell struct {
	value byte
	lasts bool
}

// plain: a disk by the chapter's words.
type plain struct {
	files [][]cell
	off   bool
	falls int
	fused bool
	left  int
	keep  []int
}

func newPlain(files int) *plain { return &plain{files: make([][]cell, files)} }

func (p *plain) fail(keep []int) {
	for f, cells := range p.files {
		var stays []cell
		loose := 0
		for _, c := range cells {
			if !c.lasts {
				loose++
			}
			if c.lasts || len(keep) > f && loose <= keep[f] {
				stays = append(stays, cell{c.value, true})
			}
		}
		p.files[f] = stays
	}
	p.off, p.falls, p.fused = true, p.falls+1, false
}

// op tells whether it is done, and not burning the fuse.
func (p *plain) op() bool {
	if p.fused && p.left == 0 {
		p.fail(p.keep)
		return false
	}
	p.left--
	return true
}

func (p *plain) none(f int) bool { return f < 0 || f >= len(p.files) }

func (p *plain) appends(f int, b []byte) api.Errno {
	switch {
	case p.off:
		return api.ErrDead
	case p.none(f):
		return api.ErrArg
	case len(p.files[f])+len(b) > 16777216:
		return api.ErrFull
	}
	cells := append([]cell{}, p.files[f]...)
	for _, c := range b {
		cells = append(cells, cell{value: c})
	}
	p.files[f] = cells
	if !p.op() {
		return api.ErrDead
	}
	return api.OK
}

func (p *plain) syncs(f int) api.Errno {
	switch {
	case p.off:
		return api.ErrDead
	case p.none(f):
		return api.ErrArg
	case !p.op():
		return api.ErrDead
	}
	for i := range p.files[f] {
		p.files[f][i].lasts = true
	}
	return api.OK
}

func (p *plain) truncates(f, n int) api.Errno {
	switch {
	case p.off:
		return api.ErrDead
	case p.none(f) || n < 0 || n > len(p.files[f]):
		return api.ErrArg
	case !p.op():
		return api.ErrDead
	}
	p.files[f] = append([]cell{}, p.files[f][:n]...)
	return api.OK
}

func (p *plain) fuses(ops int, keep []int) api.Errno {
	switch {
	case p.off:
		return api.ErrDead
	case ops < 0:
		return api.ErrArg
	}
	p.fused, p.left, p.keep = true, ops, append([]int{}, keep...)
	return api.OK
}

func (p *plain) crashes(keep []int) {
	if !p.off {
		p.fail(keep)
	}
}

func (p *plain) restarts() { p.off, p.fused = false, false }

func (p *plain) copies() *plain {
	other := *p
	other.files = make([][]cell, len(p.files))
	for f, cells := range p.files {
		other.files[f] = append([]cell{}, cells...)
	}
	other.keep = append([]int{}, p.keep...)
	return &other
}

// lasting: how many cells last; they stand ahead of the others, or the oracle itself is wrong.
func (p *plain) lasting(t *testing.T, f int) int {
	t.Helper()
	n := 0
	for i, c := range p.files[f] {
		if c.lasts && i != n {
			t.Fatal("a byte that lasts behind one that does not")
		}
		if c.lasts {
			n++
		}
	}
	return n
}

func (p *plain) bytes(f int) []byte {
	var out []byte
	for _, c := range p.files[f] {
		out = append(out, c.value)
	}
	return out
}

// alike fails if the disk shows anything else than the plain one.
func alike(t *testing.T, d *Disk, p *plain, behind string) {
	t.Helper()
	if d.Alive() == p.off || d.Falls() != p.falls {
		t.Fatalf("behind %s: alive %v, falls %d; want %v, %d", behind, d.Alive(), d.Falls(), !p.off, p.falls)
	}
	for f := range p.files {
		want := p.bytes(f)
		if d.Size(f) != len(want) || d.Lasts(f) != p.lasting(t, f) {
			t.Fatalf("behind %s: the file %d: size %d, lasts %d; want %d, %d", behind, f, d.Size(f), d.Lasts(f), len(want), p.lasting(t, f))
		}
		got, e := d.Read(f, 0, len(want))
		if p.off && (got != nil || e != api.ErrDead) {
			t.Fatalf("behind %s: Read without power: %q, %d", behind, got, e)
		}
		if !p.off && (e != api.OK || !bytes.Equal(got, want)) {
			t.Fatalf("behind %s: the file %d: %q, %d; want %q", behind, f, got, e, want)
		}
	}
}
