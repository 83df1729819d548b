package pool

import "math/bits"

// row has numbers, a bit each: the least one is found without going through all those that are taken.
type row []uint64

const wordBits = 64

// rowOf has 0, 1, .., so many.
func rowOf(count int) row {
	r := make(row, (count+wordBits-1)/wordBits)
	for number := range count {
		r.add(number)
	}
	return r
}

func (r row) add(number int) {
	r[number/wordBits] |= 1 << (number % wordBits)
}

func (r row) remove(number int) {
	r[number/wordBits] &^= 1 << (number % wordBits)
}

// least is false if there is none.
func (r row) least() (int, bool) {
	for i, word := range r {
		if word != 0 {
			return i*wordBits + bits.TrailingZeros64(word), true
		}
	}
	return 0, false
}
