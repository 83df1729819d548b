package chunk

import "math/bits"

const (
	wordBits = 64 // of a time, and of a value
	spanBits = 6  // of a number below wordBits
)

// shortWidths are the bits that a drift may do with, rising; else it has wordBits.
var shortWidths = [4]int{0, 7, 9, 12}

// signed reads the low width bits of v as a number with a sign.
func signed(v uint64, width int) int64 {
	above := wordBits - width
	return int64(v<<above) >> above
}

// fits tells whether so many bits are enough for a number.
func fits(n int64, width int) bool {
	return signed(uint64(n), width) == n
}

// spanOf is how many noughts stand ahead of x's first 1, and how many bits there are from there to the last 1; of 0, which has none, this is below 0.
func spanOf(x uint64) (ahead, size int) {
	ahead = bits.LeadingZeros64(x)
	return ahead, wordBits - ahead - bits.TrailingZeros64(x)
}
