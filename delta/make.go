package delta

import (
	"bytes"
	"slices"
)

const (
	// blockSize is greater than any copy that is written, so that none makes a delta longer, even where it divides an insertion.
	blockSize = 8
	// mostTries bounds how many places of the base are held against one of the target.
	mostTries = 32
)

// Make tells a delta by which target is made from base. The whole target is looked for first, and what both begin and end with: where the base has many blocks that are the same, the index has only some.
func Make(base, target []byte) []byte {
	d := slices.Concat(Number(len(base)), Number(len(target)))
	if at := bytes.Index(base, target); at >= 0 && len(target) >= blockSize {
		return appendCopies(d, at, len(target))
	}
	first := common(base, target)
	if first < blockSize {
		first = 0
	}
	last := commonEnd(base[first:], target[first:])
	if last < blockSize {
		last = 0
	}
	d = appendCopies(d, 0, first)
	d = appendText(d, base, target[first:len(target)-last])
	return appendCopies(d, len(base)-last, last)
}

// appendText appends what makes a text of pieces of the base and of what is between them.
func appendText(d, base, text []byte) []byte {
	if len(text) < blockSize {
		return appendInserts(d, text)
	}
	x := indexOf(base)
	done := 0 // bytes of text that d describes
	for at := 0; at+blockSize <= len(text); {
		m := x.longest(text[done:at], text[at:])
		if m.size == 0 {
			at++
			continue
		}
		d = appendInserts(d, text[done:at-m.before])
		d = appendCopies(d, m.from, m.size)
		done = at - m.before + m.size
		at = done
	}
	return appendInserts(d, text[done:])
}

// index knows where the blocks of a base are.
type index struct {
	base   []byte
	places map[uint64][]int // by a block's number, in ascending order, and not the last ones of many: what repeats itself goes on longest from the first
}

func indexOf(base []byte) index {
	x := index{base, map[uint64][]int{}}
	for at := 0; at+blockSize <= len(base); at += blockSize {
		n := blockNumber(base[at:])
		if len(x.places[n]) < mostTries {
			x.places[n] = append(x.places[n], at)
		}
	}
	return x
}

// blockNumber tells the block with which b begins as a number.
func blockNumber(b []byte) uint64 {
	n := uint64(0)
	for _, x := range b[:blockSize] {
		n = n<<8 | uint64(x)
	}
	return n
}

// match is a piece of the base that the target has too.
type match struct {
	from, size int
	before     int // how many of its bytes are before the place that was asked for
}

// longest tells the longest match that has the first block of after, and what it can of before; without one, a match of no size.
func (x index) longest(before, after []byte) match {
	var best match
	for _, at := range x.places[blockNumber(after)] {
		n := commonEnd(x.base[:at], before)
		if size := n + common(x.base[at:], after); size > best.size {
			best = match{at - n, size, n}
		}
	}
	return best
}

// common tells how many bytes are the same from the beginning on.
func common(a, b []byte) int {
	n := 0
	for n < min(len(a), len(b)) && a[n] == b[n] {
		n++
	}
	return n
}

// commonEnd tells how many bytes are the same up to the end.
func commonEnd(a, b []byte) int {
	n := 0
	for n < min(len(a), len(b)) && a[len(a)-n-1] == b[len(b)-n-1] {
		n++
	}
	return n
}

// appendCopies appends what copies n bytes of the base.
func appendCopies(d []byte, at, n int) []byte {
	for n > 0 {
		part := min(n, noLength)
		d = appendCopy(d, at, part)
		at, n = at+part, n-part
	}
	return d
}

// appendCopy appends a single copy, of at most noLength bytes.
func appendCopy(d []byte, at, n int) []byte {
	v := uint64(at) | uint64(n%noLength)<<offsetSize
	first := len(d)
	d = append(d, isCopy)
	for i := range fieldBytes {
		if x := byte(v >> (8 * i)); x != 0 {
			d[first] |= 1 << i
			d = append(d, x)
		}
	}
	return d
}

// appendInserts appends what inserts b.
func appendInserts(d, b []byte) []byte {
	for part := range slices.Chunk(b, mostInsert) {
		d = append(d, byte(len(part)))
		d = append(d, part...)
	}
	return d
}
