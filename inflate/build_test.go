package inflate_test

import (
	"fmt"
	"math/rand"
	"slices"
	"strings"
)

// Streams are built as texts of the digits 0 and 1, in the order in which they are read.

// The tables of RFC 1951, 3.2.5 and 3.2.7.
var (
	lengthFirst   = []int{3, 4, 5, 6, 7, 8, 9, 10, 11, 13, 15, 17, 19, 23, 27, 31, 35, 43, 51, 59, 67, 83, 99, 115, 131, 163, 195, 227, 258}
	lengthExtra   = []int{0, 0, 0, 0, 0, 0, 0, 0, 1, 1, 1, 1, 2, 2, 2, 2, 3, 3, 3, 3, 4, 4, 4, 4, 5, 5, 5, 5, 0}
	distanceFirst = []int{1, 2, 3, 4, 5, 7, 9, 13, 17, 25, 33, 49, 65, 97, 129, 193, 257, 385, 513, 769, 1025, 1537, 2049, 3073, 4097, 6145, 8193, 12289, 16385, 24577}
	distanceExtra = []int{0, 0, 0, 0, 1, 1, 2, 2, 3, 3, 4, 4, 5, 5, 6, 6, 7, 7, 8, 8, 9, 9, 10, 10, 11, 11, 12, 12, 13, 13}
	lengthOrder   = []int{16, 17, 18, 0, 8, 7, 9, 6, 10, 5, 11, 4, 12, 3, 13, 2, 14, 1, 15}
	extraOfRun    = map[int]int{16: 2, 17: 3, 18: 7}
	leastOfRun    = map[int]int{16: 3, 17: 3, 18: 11}
)

// number is v in n digits, the least significant one first.
func number(v, n int) string {
	b := make([]byte, n)
	for i := range b {
		b[i] = byte('0' + v>>i&1)
	}
	return string(b)
}

// packed lays digits into bytes, with zeros in the rest of the last one.
func packed(digits string) []byte {
	b := make([]byte, (len(digits)+7)/8)
	for i, d := range digits {
		b[i/8] |= byte(d-'0') << (i % 8)
	}
	return b
}

func unpacked(b []byte) string {
	var s strings.Builder
	for _, x := range b {
		s.WriteString(number(int(x), 8))
	}
	return s.String()
}

// aligned is digits up to a whole byte, with ones, which nobody may heed.
func aligned(digits string) string {
	return digits + strings.Repeat("1", (8-len(digits)%8)%8)
}

func stored(before string, last int, text string) string {
	return aligned(before+number(last, 1)+"00") + number(len(text), 16) + number(^len(text), 16) + unpacked([]byte(text))
}

// fixedHead begins a block with the fixed codes.
func fixedHead(last int) string {
	return number(last, 1) + "10"
}

// fixedSymbol is written as in RFC 1951, 3.2.6.
func fixedSymbol(symbol int) string {
	switch {
	case symbol < 144:
		return fmt.Sprintf("%08b", 0b00110000+symbol)
	case symbol < 256:
		return fmt.Sprintf("%09b", 0b110010000+symbol-144)
	case symbol < 280:
		return fmt.Sprintf("%07b", symbol-256)
	}
	return fmt.Sprintf("%08b", 0b11000000+symbol-280)
}

func fixedDistance(symbol int) string {
	return fmt.Sprintf("%05b", symbol)
}

const fixedEnd = "0000000"

func fixedLiterals(text string) string {
	var s strings.Builder
	for i := range len(text) {
		s.WriteString(fixedSymbol(int(text[i])))
	}
	return s.String()
}

// placed finds the last row of a table that does not begin behind v.
func placed(first []int, v int) int {
	i, ok := slices.BinarySearch(first, v)
	if !ok {
		i--
	}
	return i
}

func fixedMatch(length, distance int) string {
	l, d := placed(lengthFirst, length), placed(distanceFirst, distance)
	return fixedSymbol(257+l) + number(length-lengthFirst[l], lengthExtra[l]) + fixedDistance(d) + number(distance-distanceFirst[d], distanceExtra[d])
}

// endingWith is a stream of which tail are the last bits, which end a byte, after a block of so many bytes 144.
func endingWith(tail string) (b []byte, before int) {
	head := fixedHead(0)
	for (len(head)+len(fixedEnd)+len(tail))%8 != 0 {
		head += fixedSymbol(144)
		before++
	}
	return packed(head + fixedEnd + tail), before
}

// coding has the code of each symbol as digits; a symbol without a code has none.
type coding map[int]string

// codingOf counts the codes up, from the shortest to the longest.
func codingOf(lengths []int) coding {
	c := coding{}
	code := 0
	for length := 1; length <= 15; length++ {
		for symbol, l := range lengths {
			if l == length {
				c[symbol] = fmt.Sprintf("%0*b", length, code)
				code++
			}
		}
		code *= 2
	}
	return c
}

// run is a symbol of the code of code lengths, and what its extra bits tell.
type run struct{ symbol, more int }

func plainRuns(lengths ...int) []run {
	var runs []run
	for _, l := range lengths {
		runs = append(runs, run{l, 0})
	}
	return runs
}

// head is the beginning of a dynamic block, as it is to be written, right or wrong.
type head struct {
	last, literals, distances int
	ordered                   int   // how many lengths of the code of code lengths are written
	first                     []int // this code
	runs                      []run
}

func (h head) counts() string {
	return number(h.last, 1) + "01" + number(h.literals-257, 5) + number(h.distances-1, 5)
}

func (h head) firsts() string {
	s := number(h.ordered-4, 4)
	for _, symbol := range lengthOrder[:h.ordered] {
		s += number(h.first[symbol], 3)
	}
	return s
}

func (h head) lengths() string {
	c := codingOf(h.first)
	s := ""
	for _, r := range h.runs {
		s += c[r.symbol] + number(r.more, extraOfRun[r.symbol])
	}
	return s
}

func (h head) digits() string {
	return h.counts() + h.firsts() + h.lengths()
}

// evenly gives each symbol of the code of code lengths a code, of four or five bits.
func evenly() []int {
	return append(slices.Repeat([]int{4}, 13), slices.Repeat([]int{5}, 6)...)
}

// headOf writes the lengths of the two codes one by one.
func headOf(last int, literals, distances []int) head {
	return head{last, len(literals), len(distances), 19, evenly(), plainRuns(slices.Concat(literals, distances)...)}
}

// with is a list of n zeros, but for the values at the places told.
func with(n int, at map[int]int) []int {
	l := make([]int, n)
	for i, v := range at {
		l[i] = v
	}
	return l
}

// complete is a random list of the lengths of so many codes that leave no room.
func complete(rnd *rand.Rand, symbols, most int) []int {
	lengths := []int{1, 1}
	for len(lengths) < symbols {
		i := rnd.Intn(len(lengths))
		if lengths[i] < most {
			lengths[i]++
			lengths = append(lengths, lengths[i])
		}
	}
	rnd.Shuffle(len(lengths), func(i, j int) { lengths[i], lengths[j] = lengths[j], lengths[i] })
	return lengths
}

// spread gives lengths to some of n symbols, among them needed.
func spread(rnd *rand.Rand, n int, lengths []int, needed ...int) []int {
	order := slices.DeleteFunc(rnd.Perm(n), func(symbol int) bool { return slices.Contains(needed, symbol) })
	l := make([]int, n)
	for i, symbol := range append(needed, order...)[:len(lengths)] {
		l[symbol] = lengths[i]
	}
	return l
}
