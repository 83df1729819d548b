package bits

import "bytes"

// Writer has a row of bits, which grows.
type Writer struct {
	room []byte // every bit of it that stands behind the row is nought
	size int    // of the row, in bits
}

// NewWriter is one whose row is empty (C1).
func NewWriter() *Writer {
	return &Writer{}
}

// Put puts the low n bits of v behind the row (C1).
func (w *Writer) Put(v uint64, n int) {
	left := min(max(n, 0), mostBits)
	w.grow(bytesOf(w.size + left))
	for left > 0 {
		free := byteBits - w.size%byteBits
		take := min(free, left)
		left -= take
		piece := byte(v>>left) & (1<<take - 1)
		w.room[w.size/byteBits] |= piece << (free - take)
		w.size += take
	}
}

// Len is how many bits the row has (C1).
func (w *Writer) Len() int {
	return w.size
}

// Bytes is the row as bytes (C1).
func (w *Writer) Bytes() []byte {
	return bytes.Clone(w.room[:bytesOf(w.size)])
}

// Cut leaves the first n bits of the row (C1).
func (w *Writer) Cut(n int) {
	n = max(n, 0)
	if n >= w.size {
		return
	}
	// Put turns noughts into ones, and no one into a nought: all that is cut off must be noughts again.
	clear(w.room[bytesOf(n):bytesOf(w.size)])
	if kept := n % byteBits; kept > 0 {
		w.room[n/byteBits] &^= 1<<(byteBits-kept) - 1
	}
	w.size = n
}

// grow sees to room for a row of so many bytes.
func (w *Writer) grow(count int) {
	for len(w.room) < count {
		w.room = append(w.room, 0)
	}
}
