package disk

import "turnkey/api"

// Append puts bytes behind a file's (D2).
func (d *Disk) Append(f int, b []byte) api.Errno {
	if e := d.refusal(f); e != api.OK {
		return e
	}
	row := d.files[f].row
	if len(b) > api.MaxFile-len(row) {
		return api.ErrFull
	}
	// The bytes stand there ahead of the op: if it burns the fuse, some of them may be kept.
	d.files[f].row = append(row, b...)
	return d.op()
}

// Sync lets a file last (D2).
func (d *Disk) Sync(f int) api.Errno {
	if e := d.refusal(f); e != api.OK {
		return e
	}
	if e := d.op(); e != api.OK {
		return e
	}
	d.files[f].lasts = len(d.files[f].row)
	return api.OK
}

// Truncate cuts a file, at once (D2).
func (d *Disk) Truncate(f int, n int) api.Errno {
	if e := d.refusal(f); e != api.OK {
		return e
	}
	if n < 0 || n > len(d.files[f].row) {
		return api.ErrArg
	}
	if e := d.op(); e != api.OK {
		return e
	}
	d.files[f].cut(n)
	return api.OK
}

// Read tells bytes of a file (D3).
func (d *Disk) Read(f int, at int, n int) ([]byte, api.Errno) {
	if e := d.refusal(f); e != api.OK {
		return nil, e
	}
	row := d.files[f].row
	// The sum of at and n may wrap round; what is left behind at does not (below 0, if at is too far).
	if at < 0 || n < 0 || n > len(row)-at {
		return nil, api.ErrArg
	}
	return copied(row[at : at+n]), api.OK
}

// Size tells how many bytes a file has (D3).
func (d *Disk) Size(f int) int {
	if !d.has(f) {
		return -1
	}
	return len(d.files[f].row)
}

// Lasts tells how many of them last (D3).
func (d *Disk) Lasts(f int) int {
	if !d.has(f) {
		return -1
	}
	return d.files[f].lasts
}

// refusal is what every call on a file is refused by ahead of all else.
func (d *Disk) refusal(f int) api.Errno {
	if !d.on {
		return api.ErrDead
	}
	if !d.has(f) {
		return api.ErrArg
	}
	return api.OK
}

// has tells whether there is such a file.
func (d *Disk) has(f int) bool { return f >= 0 && f < len(d.files) }

// cut leaves the first n bytes alone.
func (f *file) cut(n int) {
	f.row = f.row[:n]
	f.lasts = min(f.lasts, n)
}
