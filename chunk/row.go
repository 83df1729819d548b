package chunk

import (
	"turnkey/api"
	"turnkey/bits"
)

const byteBits = 8

// row is the bits of samples, as they are written.
type row struct {
	*bits.Writer
}

// size is how many bytes it has, told without making them.
func (r row) size() int {
	return (r.Len() + byteBits - 1) / byteBits
}

func (r row) putFirst(s api.Sample) {
	r.Put(uint64(s.T), wordBits)
	r.Put(s.V, wordBits)
}

// putDrift tells by ones how many widths are too short for it.
func (r row) putDrift(drift int64) {
	for _, width := range shortWidths {
		if fits(drift, width) {
			r.Put(0, 1)
			r.Put(uint64(drift), width)
			return
		}
		r.Put(1, 1)
	}
	r.Put(uint64(drift), wordBits)
}

func (r row) putFlips(flips uint64) {
	if flips == 0 {
		r.Put(0, 1)
		return
	}
	ahead, size := spanOf(flips)
	r.Put(1, 1)
	r.Put(uint64(ahead), spanBits)
	r.Put(uint64(size-1), spanBits)
	r.Put(flips>>(wordBits-ahead-size), size)
}
