package bits

import "bytes"

// Reader goes through the bits of some bytes.
type Reader struct {
	row []byte
	at  int // how many bits have been read
}

// NewReader is one at the beginning of all bits of b (C2).
func NewReader(b []byte) *Reader {
	return &Reader{row: bytes.Clone(b)}
}

// Get is the next n bits, as a number (C2).
func (r *Reader) Get(n int) (uint64, bool) {
	if n < 0 || n > mostBits || n > r.Left() {
		return 0, false
	}
	var v uint64
	for left := n; left > 0; {
		ahead := r.at % byteBits
		take := min(byteBits-ahead, left)
		piece := r.row[r.at/byteBits] << ahead >> (byteBits - take)
		v = v<<take | uint64(piece)
		r.at += take
		left -= take
	}
	return v, true
}

// Left is how many bits are left (C2).
func (r *Reader) Left() int {
	return len(r.row)*byteBits - r.at
}
