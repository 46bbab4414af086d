// Package symbols tells what the symbols of RFC 1951 stand for, to those who read its blocks and to those who write them.
package symbols

import (
	"math/bits"
	"slices"
)

// Symbols of the literal code are bytes below End, and lengths of matches above it.
const (
	End          = 256
	LastLength   = 285
	LastDistance = 29
)

// Bounds of a match.
const (
	LeastLength   = 3
	MostLength    = 258
	LeastDistance = 1
	MostDistance  = 1 << 15
)

// Bounds of how many lengths tell a code.
const (
	LeastLiterals  = 257
	MostLiterals   = 286
	LeastDistances = 1
	MostDistances  = 30
	LeastOrdered   = 4
	MostOrdered    = 19
)

// Symbols of the code in which the lengths of a block's codes are written; those below Again are lengths.
const (
	Again     = 16 // the length before, a few times
	Zeros     = 17
	ManyZeros = 18
)

const (
	lengthSteps   = 4
	distanceSteps = 2
)

// order lists the symbols of this code as their own lengths come.
var order = [MostOrdered]int{16, 17, 18, 0, 8, 7, 9, 6, 10, 5, 11, 4, 12, 3, 13, 2, 14, 1, 15}

// Ordered tells to which symbol the length belongs that comes after i others.
func Ordered(i int) int {
	return order[i]
}

// Run tells for how many lengths a symbol stands at least, and how many bits tell for how many more.
func Run(symbol int) (least, extra int) {
	switch symbol {
	case Again:
		return 3, 2
	case Zeros:
		return 3, 3
	case ManyZeros:
		return 11, 7
	}
	return 1, 0
}

// FixedLengths tells the lengths of the codes that blocks of type 1 have, also of the symbols that no block may use.
func FixedLengths() (literals, distances []int) {
	literals = slices.Concat(times(8, 144), times(9, 112), times(7, 24), times(8, 8))
	return literals, times(5, 32)
}

// times tells a list of n times the number v.
func times(v, n int) []int {
	return slices.Repeat([]int{v}, n)
}

// Length tells the least length for which a symbol of the literal code stands, and how many bits tell how much is to be added.
func Length(symbol int) (least, extra int) {
	if symbol == LastLength { // for the greatest length alone: its span would begin beyond that
		return MostLength, 0
	}
	first, extra := span(symbol-End-1, lengthSteps)
	return LeastLength + first, extra
}

// OfLength tells the symbol that stands for a length.
func OfLength(length int) int {
	if length == MostLength {
		return LastLength
	}
	return End + 1 + place(length-LeastLength, lengthSteps)
}

// Distance tells the least distance for which a symbol stands, and how many bits tell how much is to be added.
func Distance(symbol int) (least, extra int) {
	first, extra := span(symbol, distanceSteps)
	return LeastDistance + first, extra
}

// OfDistance tells the symbol that stands for a distance.
func OfDistance(distance int) int {
	return place(distance-LeastDistance, distanceSteps)
}

// span tells the first of the numbers that share symbol n, and how many bits tell which of them is meant. Twice steps symbols stand for a number each; after that, each steps symbols stand for twice as many numbers as the ones before.
func span(n, steps int) (first, extra int) {
	if n < 2*steps {
		return n, 0
	}
	extra = n/steps - 1
	return (steps + n%steps) << extra, extra
}

// place tells the symbol whose span has v.
func place(v, steps int) int {
	extra := max(0, bits.Len(uint(v/steps))-1)
	return steps*extra + v>>extra
}
