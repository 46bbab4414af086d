package pack

import (
	"cmp"
	"slices"

	"stemma/api"
)

const (
	blockSize = 8
	mostMarks = 32
)

// mark is a number that stands for a block of a text, and the kind of the objects that have it.
type mark struct {
	kind   int
	number uint64
}

// marksOf tells the least of the numbers that stand for the blocks of an object, at all places. Objects that have most of their blocks in common have most of their marks in common, wherever the blocks are.
func marksOf(o api.Object) []mark {
	var l []mark
	block := uint64(0)
	for i, x := range o.Body {
		block = block<<8 | uint64(x)
		if i+1 >= blockSize {
			l = withMark(l, mark{o.Kind, scattered(block)})
		}
	}
	return l
}

// withMark adds a mark to ascending ones, if it is not among them and not too great.
func withMark(l []mark, m mark) []mark {
	if len(l) == mostMarks && m.number >= l[len(l)-1].number {
		return l
	}
	at, ok := slices.BinarySearchFunc(l, m, func(a, b mark) int { return cmp.Compare(a.number, b.number) })
	if ok {
		return l
	}
	if len(l) == mostMarks {
		l = l[:len(l)-1]
	}
	return slices.Insert(l, at, m)
}

// scattered tells another number for each block, so that none is the least for what its bytes are.
func scattered(block uint64) uint64 {
	const odd = 0x9e3779b97f4a7c15
	block ^= block >> 32
	block *= odd
	block ^= block >> 29
	block *= odd
	return block ^ block>>32
}
