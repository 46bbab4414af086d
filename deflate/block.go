package deflate

import (
	"stemma/bits"
	"stemma/symbols"
)

const perByte = 8

// Types of blocks.
const (
	typeStored = iota
	typeFixed
	typeDynamic
)

// Bits that blocks have whatever their text is.
const (
	lastSize   = 1
	typeSize   = 2
	headSize   = lastSize + typeSize
	storedSize = 16 // of the length of a stored block, and of its complement
)

// block is a stored, a fixed or a dynamic one.
type block interface {
	// end tells how many bits there are with the block, if there are so many before it.
	end(before int) int
}

type stored struct{ text []byte }

type fixed struct{ coded }

type dynamic struct {
	coded
	head head
}

// coded has the tokens of a block, and the codes in which they are written.
type coded struct {
	tokens              []token
	literals, distances code
	size                int // in bits
}

func (s stored) end(before int) int {
	bytes := (before + headSize + perByte - 1) / perByte
	return perByte*(bytes+len(s.text)) + 2*storedSize
}

func (f fixed) end(before int) int {
	return before + headSize + f.size
}

func (d dynamic) end(before int) int {
	return before + headSize + d.head.size() + d.size
}

func fixedOf(p piece) fixed {
	literals, distances := symbols.FixedLengths()
	return fixed{codedBy(codeOf(literals), codeOf(distances), p.tokens, countsOf(p.tokens))}
}

func dynamicOf(p piece) dynamic {
	n := countsOf(p.tokens)
	c := codedBy(bestCode(n.literals, longest), bestCode(n.distances, longest), p.tokens, n)
	return dynamic{c, headOf(c.literals.lengths, c.distances.lengths)}
}

func codedBy(literals, distances code, tokens []token, n counts) coded {
	return coded{tokens, literals, distances, literals.cost(n.literals) + distances.cost(n.distances) + n.extra()}
}

// written tells the bytes of blocks.
func written(l []block) []byte {
	w := &bits.Writer{}
	for _, b := range l[:len(l)-1] {
		w.Put(0, lastSize)
		write(b, w)
	}
	w.Put(1, lastSize)
	write(l[len(l)-1], w)
	return w.Bytes()
}

// write writes a block from its type on.
func write(b block, w *bits.Writer) {
	if s, ok := b.(stored); ok {
		w.Put(typeStored, typeSize)
		s.write(w)
	} else if f, ok := b.(fixed); ok {
		w.Put(typeFixed, typeSize)
		f.write(w)
	} else if d, ok := b.(dynamic); ok {
		w.Put(typeDynamic, typeSize)
		d.head.write(w)
		d.write(w)
	}
}

func (s stored) write(w *bits.Writer) {
	w.Align()
	size := uint32(len(s.text))
	w.Put(size, storedSize)
	w.Put(^size, storedSize)
	w.Raw(s.text)
}

func (c coded) write(w *bits.Writer) {
	for _, t := range c.tokens {
		symbol := t.symbol()
		c.literals.write(symbol, w)
		if t.distance > 0 {
			least, extra := symbols.Length(symbol)
			w.Put(uint32(t.value-least), extra)
			c.writeDistance(t.distance, w)
		}
	}
	c.literals.write(symbols.End, w)
}

func (c coded) writeDistance(distance int, w *bits.Writer) {
	symbol := symbols.OfDistance(distance)
	c.distances.write(symbol, w)
	least, extra := symbols.Distance(symbol)
	w.Put(uint32(distance-least), extra)
}
