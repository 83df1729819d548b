package post

import (
	"bytes"
	"math"

	"turnkey/num"
)

// Put writes a list (L4).
func Put(b []byte, l []uint32) ([]byte, bool) {
	if !rises(l) {
		return nil, false
	}
	out := appendUint(bytes.Clone(b), uint64(len(l)))
	least := uint32(0) // that the next number may be
	for _, n := range l {
		out = appendUint(out, uint64(n-least))
		least = n + 1
	}
	return out, true
}

// Get reads a list (L4).
func Get(b []byte) ([]uint32, int) {
	count, at := num.Uint(b)
	if at == 0 || count > uint64(len(b)-at) {
		return nil, 0
	}
	out := make([]uint32, 0, count)
	least := uint64(0) // that the next number may be
	for range count {
		gap, size := num.Uint(b[at:])
		// The gap is looked at by itself first, as with least it might wrap round.
		if size == 0 || gap > math.MaxUint32 || least+gap > math.MaxUint32 {
			return nil, 0
		}
		out = append(out, uint32(least+gap))
		least += gap + 1
		at += size
	}
	return out, at
}

// appendUint hands num no more than it must: num copies all that stands ahead, and so for each number.
func appendUint(out []byte, n uint64) []byte {
	return append(out, num.PutUint(nil, n)...)
}
