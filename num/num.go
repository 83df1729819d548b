// Package num: numbers and bytes as bytes: see shared/doc/01-num.md.
package num

import "math/bits"

const (
	groupBits = 7
	groupMask = 1<<groupBits - 1
	moreFlag  = 1 << groupBits
	mostBytes = 10 // of a number of 64 bits
	mostLast  = 1  // all that 64 bits leave to the tenth byte
)

// PutUint writes a number without a sign behind some bytes (A1).
func PutUint(b []byte, n uint64) []byte {
	return appendUint(copyWithRoom(b, uintSize(n)), n)
}

// Uint reads one, and tells how many bytes it has; 0: none stands there (A1).
func Uint(b []byte) (uint64, int) {
	var n uint64
	for i := range min(len(b), mostBytes) {
		if i == mostBytes-1 && b[i] > mostLast {
			return 0, 0
		}
		n |= uint64(b[i]&groupMask) << (groupBits * i)
		if b[i]&moreFlag != 0 {
			continue
		}
		if b[i] == 0 && i > 0 {
			return 0, 0
		}
		return n, i + 1
	}
	return 0, 0
}

// PutInt writes a number with a sign (A2).
func PutInt(b []byte, n int64) []byte {
	return PutUint(b, foldSign(n))
}

// Int reads one (A2).
func Int(b []byte) (int64, int) {
	n, size := Uint(b)
	return unfoldSign(n), size
}

// PutBytes writes bytes, how many there are ahead of them (A3).
func PutBytes(b []byte, s []byte) []byte {
	count := uint64(len(s))
	out := copyWithRoom(b, uintSize(count)+len(s))
	return append(appendUint(out, count), s...)
}

// Bytes reads these, if they are at most so many (A3).
func Bytes(b []byte, most int) ([]byte, int) {
	count, size := Uint(b)
	if size == 0 || most < 0 || count > uint64(most) || count > uint64(len(b)-size) {
		return nil, 0
	}
	end := size + int(count)
	return copyWithRoom(b[size:end], 0), end
}

// copyWithRoom makes the memory of an answer: what is put behind it must never land behind the caller's own bytes.
func copyWithRoom(b []byte, room int) []byte {
	out := make([]byte, len(b), len(b)+room)
	copy(out, b)
	return out
}

func uintSize(n uint64) int {
	// The number 0 has no bits, but one group.
	return (bits.Len64(n|1) + groupBits - 1) / groupBits
}

func appendUint(out []byte, n uint64) []byte {
	for range uintSize(n) - 1 {
		out = append(out, byte(n&groupMask|moreFlag))
		n >>= groupBits
	}
	return append(out, byte(n))
}

// foldSign lets numbers near 0 be small on both sides of it: 2 n, or -2 n - 1 below 0.
func foldSign(n int64) uint64 {
	if n < 0 {
		// ^n is -n - 1, which, unlike -n, is there for the least number too.
		return uint64(^n)<<1 | 1
	}
	return uint64(n) << 1
}

func unfoldSign(n uint64) int64 {
	if n&1 == 1 {
		return ^int64(n >> 1)
	}
	return int64(n >> 1)
}
