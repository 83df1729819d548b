package series

import (
	"bytes"
	"slices"

	"turnkey/api"
	"turnkey/chunk"
)

// packer takes all samples, into chunks, one behind the other.
type packer struct {
	full [][]byte // those that did not take the sample that came next
	open *chunk.Chunk
}

func newPacker() *packer {
	return &packer{open: chunk.New(api.SlotBytes)}
}

func (p *packer) take(one api.Sample) bool {
	if !p.open.Append(one.T, one.V) {
		p.full = append(p.full, p.open.Bytes())
		p.open = chunk.New(api.SlotBytes)
		// One goes into each chunk that has none.
		p.open.Append(one.T, one.V)
	}
	return true
}

// chunks are the bytes of all that it has.
func (p *packer) chunks() [][]byte {
	if p.open.Len() == 0 {
		return p.full
	}
	return append(p.full, p.open.Bytes())
}

// asPacked tells whether chunks are just those of some samples, one at least, whose times rise.
func asPacked(chunks [][]byte) bool {
	var times rise
	p := newPacker()
	for _, b := range chunks {
		// What goes into no slot is not even read: it might tell very many samples.
		if len(b) > api.SlotBytes {
			return false
		}
		l, e := chunk.Read(b)
		if e != api.OK || !each(l, times.take) {
			return false
		}
		each(l, p.take)
	}
	made := p.chunks()
	return len(made) > 0 && slices.EqualFunc(made, chunks, bytes.Equal)
}
