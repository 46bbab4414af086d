package sum

const digits = "0123456789abcdef"

// Hex tells two digits for each byte.
func Hex(b []byte) string {
	s := make([]byte, 0, 2*len(b))
	for _, x := range b {
		s = append(s, digits[x>>4], digits[x&15])
	}
	return string(s)
}

// Unhex tells the bytes that have the Hex s.
func Unhex(s string) ([]byte, bool) {
	if len(s)%2 != 0 {
		return nil, false
	}
	b := make([]byte, 0, len(s)/2)
	for i := 0; i < len(s); i += 2 {
		high, isHigh := half(s[i])
		low, isLow := half(s[i+1])
		if !isHigh || !isLow {
			return nil, false
		}
		b = append(b, high<<4|low)
	}
	return b, true
}

// half tells the half of a byte that the digit stands for. Hex writes no capital letters, so they stand for none.
func half(digit byte) (byte, bool) {
	switch {
	case '0' <= digit && digit <= '9':
		return digit - '0', true
	case 'a' <= digit && digit <= 'f':
		return digit - 'a' + 10, true
	}
	return 0, false
}
