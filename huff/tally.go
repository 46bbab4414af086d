package huff

import "stemma/api"

// whole is what the shares of the codes of a complete code add up to, and those of no code exceed.
const whole = 1 << longest

// tally has the number of codes of each length.
type tally [longest + 1]int

// checked tells the tally of lengths, or why they give no code.
func checked(lengths []int) (tally, api.Errno) {
	t, ok := tallied(lengths)
	if !ok || len(lengths) > mostSymbols {
		return tally{}, api.ErrArg
	}
	if t.share() > whole {
		return tally{}, api.ErrForm
	}
	return t, api.OK
}

// tallied tells false if one of lengths is not the length of a code.
func tallied(lengths []int) (tally, bool) {
	var t tally
	for _, length := range lengths {
		if length < 0 || length > longest {
			return tally{}, false
		}
		if length > 0 {
			t[length]++
		}
	}
	return t, true
}

// share tells for how many of the whole numbers of longest bits one of the codes is the beginning.
func (t tally) share() int {
	sum := 0
	for length, n := range t {
		sum += n << (longest - length)
	}
	return sum
}

// firsts tells the first code of each length.
func (t tally) firsts() [longest + 1]uint32 {
	var first [longest + 1]uint32
	for length := 1; length <= longest; length++ {
		first[length] = 2 * (first[length-1] + uint32(t[length-1]))
	}
	return first
}
