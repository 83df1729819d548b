package sum

const pairSize = 2

// pair is the two digits of a byte, the higher half first.
type pair [pairSize]byte

// Hex writes bytes in digits (B3).
func Hex(b []byte) string {
	out := make([]byte, 0, len(b)*pairSize)
	for _, c := range b {
		p := pairOf(c)
		out = append(out, p[:]...)
	}
	return string(out)
}

// Unhex reads them (B3).
func Unhex(s string) ([]byte, bool) {
	if len(s)%pairSize != 0 {
		return nil, false
	}
	out := make([]byte, len(s)/pairSize)
	for i := range out {
		p := pair{s[i*pairSize], s[i*pairSize+1]}
		out[i] = digitValue(p[0])<<4 | digitValue(p[1])
		// Each byte has one pair alone: whatever stood there, it was digits just if it is this one.
		if p != pairOf(out[i]) {
			return nil, false
		}
	}
	return out, true
}

func pairOf(c byte) pair {
	const digits = "0123456789abcdef"
	return pair{digits[c>>4], digits[c&15]}
}

// digitValue is a digit's value, and of any other byte some value below 16.
func digitValue(c byte) byte {
	if c >= 'a' {
		return (c - 'a' + 10) & 15
	}
	return (c - '0') & 15
}
