package disk

import "turnkey/api"

// Fuse lets the power fail at an op that is still to come (D4).
func (d *Disk) Fuse(ops int, keep []int) api.Errno {
	if !d.on {
		return api.ErrDead
	}
	if ops < 0 {
		return api.ErrArg
	}
	// Numbers behind those of the files are never asked for.
	d.fuse = fuse{set: true, ops: ops, keep: copied(keep[:min(len(keep), len(d.files))])}
	return api.OK
}

// Crash lets the power fail (D4).
func (d *Disk) Crash(keep []int) {
	if d.on {
		d.fail(keep)
	}
}

// Restart lets it come back (D4).
func (d *Disk) Restart() {
	d.on = true
	d.fuse = fuse{}
}

// Alive tells whether the power is on (D4).
func (d *Disk) Alive() bool { return d.on }

// Falls tells how often it has failed (D4).
func (d *Disk) Falls() int { return d.falls }

// op is counted by the fuse, if there is one, or burns it.
func (d *Disk) op() api.Errno {
	if !d.fuse.set {
		return api.OK
	}
	if d.fuse.ops == 0 {
		d.fail(d.fuse.keep)
		return api.ErrDead
	}
	d.fuse.ops--
	return api.OK
}

// fail takes the power away; of the loose bytes a list says how many stay.
func (d *Disk) fail(keep []int) {
	for f := range d.files {
		kept := 0
		if f < len(keep) {
			kept = keep[f]
		}
		d.files[f].lose(kept)
	}
	d.on = false
	d.falls++
	d.fuse = fuse{}
}

// lose lets so many of the loose bytes stay, if there are so many, and none below 0.
func (f *file) lose(kept int) {
	loose := len(f.row) - f.lasts
	f.row = f.row[:f.lasts+min(max(kept, 0), loose)]
	f.lasts = len(f.row)
}
