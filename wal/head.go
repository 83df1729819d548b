package wal

import "turnkey/api"

// The data of a head: a mark, three numbers, and a state behind them.
const (
	mark         = "turnkey1"
	generationAt = len(mark)
	capAt        = generationAt + 8
	slotsAt      = capAt + 4
	fixedSize    = slotsAt + 4
)

// head is what the head of a file says ahead of its state.
type head struct {
	generation uint64
	cap        int
	slots      int
}

// allowed tells whether a log file may have such a head.
func (h head) allowed() bool {
	return h.generation > 0 &&
		h.cap >= api.MinLog && h.cap <= api.MaxLog &&
		h.slots >= 1 && h.slots <= api.MaxSlots
}

// with is the data of the head with a state.
func (h head) with(state []byte) []byte {
	data := make([]byte, 0, fixedSize+len(state))
	data = append(data, mark...)
	data = appendNumber(data, h.generation, 8)
	data = appendNumber(data, uint64(h.cap), 4)
	data = appendNumber(data, uint64(h.slots), 4)
	return append(data, state...)
}

// headOf is the head, and its state, that a file's first frame says; ok is false, if it is none.
func headOf(kind byte, data []byte) (h head, state []byte, ok bool) {
	if kind != headKind || len(data) < fixedSize || string(data[:generationAt]) != mark {
		return head{}, nil, false
	}
	h = head{
		generation: number(data[generationAt:capAt]),
		cap:        int(number(data[capAt:slotsAt])),
		slots:      int(number(data[slotsAt:fixedSize])),
	}
	if !h.allowed() {
		return head{}, nil, false
	}
	return h, data[fixedSize:], true
}

// appendNumber puts a number behind some bytes, the lowest byte first.
func appendNumber(b []byte, v uint64, size int) []byte {
	for i := range size {
		b = append(b, byte(v>>(8*i)))
	}
	return b
}

// number is the number that some bytes are, the lowest first.
func number(b []byte) uint64 {
	v := uint64(0)
	for i, c := range b {
		v |= uint64(c) << (8 * i)
	}
	return v
}
