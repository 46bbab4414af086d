package inflate

import (
	"slices"

	"stemma/api"
	"stemma/huff"
	"stemma/symbols"
)

// codes are those of a block.
type codes struct {
	literals, distances *huff.Code
}

// codesOf makes the codes of a block.
func codesOf(literals, distances []int) (*codes, api.Errno) {
	l, e := completeCode(literals)
	if e != api.OK {
		return nil, e
	}
	d, e := distanceCode(distances)
	if e != api.OK {
		return nil, e
	}
	return &codes{l, d}, api.OK
}

func completeCode(lengths []int) (*huff.Code, api.Errno) {
	if !huff.Complete(lengths) {
		return nil, api.ErrForm
	}
	return huff.New(lengths)
}

// distanceCode makes a code that may also have a single symbol, of length 1, or none.
func distanceCode(lengths []int) (*huff.Code, api.Errno) {
	sum := 0
	for _, length := range lengths {
		sum += length
	}
	if sum > 1 {
		return completeCode(lengths)
	}
	return huff.New(lengths)
}

// codes reads the codes of a block.
func (r *reader) codes() (*codes, api.Errno) {
	literals, e := r.count(5, symbols.LeastLiterals)
	if e != api.OK {
		return nil, e
	}
	if literals > symbols.MostLiterals {
		return nil, api.ErrForm
	}
	distances, e := r.count(5, symbols.LeastDistances)
	if e != api.OK {
		return nil, e
	}
	if distances > symbols.MostDistances {
		return nil, api.ErrForm
	}
	lengths, e := r.lengths(literals + distances)
	if e != api.OK {
		return nil, e
	}
	if lengths[symbols.End] == 0 {
		return nil, api.ErrForm
	}
	return codesOf(lengths[:literals], lengths[literals:])
}

// lengths reads n lengths, those of both codes of a block.
func (r *reader) lengths(n int) ([]int, api.Errno) {
	code, e := r.lengthCode()
	if e != api.OK {
		return nil, e
	}
	var lengths []int
	for len(lengths) < n {
		symbol, e := code.Read(r.in)
		if e != api.OK {
			return nil, e
		}
		run, e := r.run(symbol)
		if e != api.OK {
			return nil, e
		}
		if symbol == symbols.Again && len(lengths) == 0 || len(lengths)+run > n {
			return nil, api.ErrForm
		}
		lengths = append(lengths, slices.Repeat([]int{lengthOf(symbol, lengths)}, run)...)
	}
	return lengths, api.OK
}

// lengthCode reads the code in which the lengths are written.
func (r *reader) lengthCode() (*huff.Code, api.Errno) {
	n, e := r.count(4, symbols.LeastOrdered)
	if e != api.OK {
		return nil, e
	}
	lengths := make([]int, symbols.MostOrdered)
	for i := range n {
		length, e := r.take(3)
		if e != api.OK {
			return nil, e
		}
		lengths[symbols.Ordered(i)] = length
	}
	return completeCode(lengths)
}

// run tells for how many lengths a symbol stands.
func (r *reader) run(symbol int) (int, api.Errno) {
	least, extra := symbols.Run(symbol)
	return r.count(extra, least)
}

// lengthOf tells for which length a symbol stands after those before it.
func lengthOf(symbol int, before []int) int {
	switch symbol {
	case symbols.Again:
		return before[len(before)-1]
	case symbols.Zeros, symbols.ManyZeros:
		return 0
	}
	return symbol
}
