package inflate

import (
	"slices"

	"stemma/api"
	"stemma/huff"
)

const (
	leastLiterals  = 257
	mostLiterals   = 286
	leastDistances = 1
	mostDistances  = 30
	leastOrdered   = 4
)

// Symbols of the code in which the lengths of a block's codes are written; those below them are lengths.
const (
	again     = 16 // the length before, a few times
	zeros     = 17
	manyZeros = 18
	symbols   = 19
)

// order lists these symbols as their lengths come.
var order = [symbols]int{16, 17, 18, 0, 8, 7, 9, 6, 10, 5, 11, 4, 12, 3, 13, 2, 14, 1, 15}

// codes are those of a block.
type codes struct {
	literals, distances *huff.Code
}

// fixedLengths tells the lengths of the codes that blocks of type 1 have, also of the symbols that no block may use.
func fixedLengths() (literals, distances []int) {
	literals = slices.Concat(times(8, 144), times(9, 112), times(7, 24), times(8, 8))
	return literals, times(5, 32)
}

// codesOf makes the codes of a block.
func codesOf(literals, distances []int) (*codes, api.Errno) {
	l, e := completeCode(literals)
	if e != api.OK {
		return nil, e
	}
	d, e := distanceCode(distances)
	if e != api.OK {
		return nil, e
	}
	return &codes{l, d}, api.OK
}

func completeCode(lengths []int) (*huff.Code, api.Errno) {
	if !huff.Complete(lengths) {
		return nil, api.ErrForm
	}
	return huff.New(lengths)
}

// distanceCode makes a code that may also have a single symbol, of length 1, or none.
func distanceCode(lengths []int) (*huff.Code, api.Errno) {
	sum := 0
	for _, length := range lengths {
		sum += length
	}
	if sum > 1 {
		return completeCode(lengths)
	}
	return huff.New(lengths)
}

// codes reads the codes of a block.
func (r *reader) codes() (*codes, api.Errno) {
	literals, e := r.count(5, leastLiterals)
	if e != api.OK {
		return nil, e
	}
	if literals > mostLiterals {
		return nil, api.ErrForm
	}
	distances, e := r.count(5, leastDistances)
	if e != api.OK {
		return nil, e
	}
	if distances > mostDistances {
		return nil, api.ErrForm
	}
	lengths, e := r.lengths(literals + distances)
	if e != api.OK {
		return nil, e
	}
	if lengths[end] == 0 {
		return nil, api.ErrForm
	}
	return codesOf(lengths[:literals], lengths[literals:])
}

// lengths reads n lengths, those of both codes of a block.
func (r *reader) lengths(n int) ([]int, api.Errno) {
	code, e := r.lengthCode()
	if e != api.OK {
		return nil, e
	}
	var lengths []int
	for len(lengths) < n {
		symbol, e := code.Read(r.in)
		if e != api.OK {
			return nil, e
		}
		run, e := r.run(symbol)
		if e != api.OK {
			return nil, e
		}
		if symbol == again && len(lengths) == 0 || len(lengths)+run > n {
			return nil, api.ErrForm
		}
		lengths = append(lengths, times(lengthOf(symbol, lengths), run)...)
	}
	return lengths, api.OK
}

// lengthCode reads the code in which the lengths are written.
func (r *reader) lengthCode() (*huff.Code, api.Errno) {
	n, e := r.count(4, leastOrdered)
	if e != api.OK {
		return nil, e
	}
	lengths := make([]int, symbols)
	for i := range n {
		length, e := r.take(3)
		if e != api.OK {
			return nil, e
		}
		lengths[order[i]] = length
	}
	return completeCode(lengths)
}

// run tells for how many lengths a symbol stands.
func (r *reader) run(symbol int) (int, api.Errno) {
	switch symbol {
	case again:
		return r.count(2, 3)
	case zeros:
		return r.count(3, 3)
	case manyZeros:
		return r.count(7, 11)
	}
	return 1, api.OK
}

// lengthOf tells for which length a symbol stands after those before it.
func lengthOf(symbol int, before []int) int {
	switch symbol {
	case again:
		return before[len(before)-1]
	case zeros, manyZeros:
		return 0
	}
	return symbol
}

// times tells a list of n times the number v.
func times(v, n int) []int {
	return slices.Repeat([]int{v}, n)
}
