package deflate

import (
	"cmp"
	"slices"
)

const mostStored = 65535 // bytes of a stored block

// blocksOf tells the blocks for a text, one or more.
func blocksOf(b []byte, level int) []block {
	if level <= 0 {
		return storedOf(b)
	}
	p := pieceOf(b)
	whole := []block{fixedOf(p)}
	if level == 1 {
		return whole
	}
	return shortest(mixed(p), whole, storedOf(b))
}

// storedOf tells as few stored blocks as have room for a text.
func storedOf(b []byte) []block {
	var l []block
	for len(b) > mostStored {
		l = append(l, stored{b[:mostStored]})
		b = b[mostStored:]
	}
	return append(l, stored{b})
}

// mixed tells for each part of a piece the block that is shortest there.
func mixed(p piece) []block {
	var l []block
	before := 0
	for _, part := range p.cut() {
		b := slices.MinFunc(choices(part), func(a, b block) int { return cmp.Compare(a.end(before), b.end(before)) })
		l = append(l, b)
		before = b.end(before)
	}
	return l
}

// choices tells the blocks that a piece can be.
func choices(p piece) []block {
	l := []block{stored{p.text}, fixedOf(p)}
	if len(p.tokens) > 0 { // else the end would be alone in the literal code, which would not be complete
		l = append(l, dynamicOf(p))
	}
	return l
}

// shortest tells the list of blocks that has the fewest bits.
func shortest(lists ...[]block) []block {
	return slices.MinFunc(lists, func(a, b []block) int { return cmp.Compare(size(a), size(b)) })
}

func size(l []block) int {
	n := 0
	for _, b := range l {
		n = b.end(n)
	}
	return n
}
