package chunk

import (
	"turnkey/api"
	"turnkey/bits"
	"turnkey/num"
)

// reader goes through the bits of samples; from the first thing on that is not as it is written, all of it is wrong.
type reader struct {
	*bits.Reader
	wrong bool
}

// Read tells the samples that bytes are (J2).
func Read(b []byte) ([]api.Sample, api.Errno) {
	if len(b) == 0 {
		return nil, api.OK
	}
	// Where no number stands, the count is 0, too; and no samples have no bytes.
	count, size := num.Uint(b)
	if count == 0 {
		return nil, api.ErrChunk
	}
	r := &reader{Reader: bits.NewReader(b[size:])}
	l := r.samples(count)
	r.end()
	if r.wrong {
		return nil, api.ErrChunk
	}
	return l, api.OK
}

func (r *reader) samples(count uint64) []api.Sample {
	at := trail{last: r.first()}
	out := []api.Sample{at.last}
	for range count - 1 {
		// A count may be far above what the bits could tell.
		if r.wrong {
			return nil
		}
		drift := r.drift()
		flips := r.flips()
		at = at.by(drift, flips)
		out = append(out, at.last)
	}
	return out
}

func (r *reader) first() api.Sample {
	t := r.take(wordBits)
	v := r.take(wordBits)
	return api.Sample{T: int64(t), V: v}
}

func (r *reader) drift() int64 {
	shorter := -1
	for _, width := range shortWidths {
		if r.take(1) == 0 {
			return r.driftOf(width, shorter)
		}
		shorter = width
	}
	return r.driftOf(wordBits, shorter)
}

// driftOf reads one of so many bits, for which those of the width ahead, if there is one, must not be enough.
func (r *reader) driftOf(width, shorter int) int64 {
	drift := signed(r.take(width), width)
	if shorter >= 0 && fits(drift, shorter) {
		r.wrong = true
	}
	return drift
}

func (r *reader) flips() uint64 {
	if r.take(1) == 0 {
		return 0
	}
	ahead := int(r.take(spanBits))
	size := int(r.take(spanBits)) + 1
	behind := wordBits - ahead - size
	if behind < 0 {
		r.wrong = true
		return 0
	}
	flips := r.take(size) << behind
	if first, long := spanOf(flips); first != ahead || long != size {
		r.wrong = true
	}
	return flips
}

// end sees that nothing is left but the noughts up to a whole byte.
func (r *reader) end() {
	left := r.Left()
	if left >= byteBits || r.take(left) != 0 {
		r.wrong = true
	}
}

// take is the next n bits; where so many are not left, 0.
func (r *reader) take(n int) uint64 {
	v, ok := r.Get(n)
	if !ok {
		r.wrong = true
	}
	return v
}
