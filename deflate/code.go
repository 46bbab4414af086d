package deflate

import (
	"slices"

	"stemma/bits"
	"stemma/huff"
	"stemma/symbols"
)

// Bits of a code at most.
const (
	longest        = 15
	longestOrdered = 7 // of the code in which the lengths of the others are written
)

// code is a prefix code for writing.
type code struct {
	lengths []int
	codes   []uint32
}

// codeOf makes the code of these lengths, which are those of RFC 1951 or come from huff, so that there is one.
func codeOf(lengths []int) code {
	codes, _ := huff.Codes(lengths)
	return code{lengths, codes}
}

// bestCode makes the code in which symbols that occur so often take the fewest bits. A block has too few of them for huff to refuse.
func bestCode(counts []int, most int) code {
	lengths, _ := huff.Lengths(counts, most)
	return codeOf(lengths)
}

func (c code) cost(counts []int) int {
	return huff.Cost(counts, c.lengths)
}

func (c code) write(symbol int, w *bits.Writer) {
	w.Code(c.codes[symbol], c.lengths[symbol])
}

// head is the beginning of a dynamic block, which tells its codes.
type head struct {
	literals, distances int   // how many lengths of each code it tells
	ordered             []int // the lengths of the code for runs, as they come
	code                code
	runs                []run
}

// run is one length or several, told by a symbol and what follows it in bits.
type run struct {
	symbol, more int
}

func headOf(literals, distances []int) head {
	literals = trimmed(literals, symbols.LeastLiterals)
	distances = trimmed(distances, symbols.LeastDistances)
	runs := runsOf(slices.Concat(literals, distances))
	c := bestCode(countsOfRuns(runs), longestOrdered)
	return head{len(literals), len(distances), orderedOf(c.lengths), c, runs}
}

// trimmed leaves out zeros at the end, as long as more than least are left.
func trimmed(lengths []int, least int) []int {
	n := len(lengths)
	for n > least && lengths[n-1] == 0 {
		n--
	}
	return lengths[:n]
}

// orderedOf tells the lengths in the order in which they come.
func orderedOf(lengths []int) []int {
	var l []int
	for i := range lengths {
		l = append(l, lengths[symbols.Ordered(i)])
	}
	return trimmed(l, symbols.LeastOrdered)
}

// runsOf tells runs for lengths.
func runsOf(lengths []int) []run {
	var l []run
	for len(lengths) > 0 {
		n := equal(lengths)
		l = append(l, runsOfOne(lengths[0], n)...)
		lengths = lengths[n:]
	}
	return l
}

// equal tells how many elements at the beginning are the same.
func equal(l []int) int {
	n := 1
	for n < len(l) && l[n] == l[0] {
		n++
	}
	return n
}

// runsOfOne tells runs for a length that comes n times.
func runsOfOne(length, n int) []run {
	var l []run
	for n > 0 {
		symbol := symbolFor(length, n, len(l) > 0)
		least, extra := symbols.Run(symbol)
		some := min(n, least+1<<extra-1)
		l = append(l, run{symbol, some - least})
		n -= some
	}
	return l
}

// symbolFor tells the symbol that stands for as many as it can of a length that comes n times, told before or not.
func symbolFor(length, n int, before bool) int {
	switch {
	case length == 0 && fits(symbols.ManyZeros, n):
		return symbols.ManyZeros
	case length == 0 && fits(symbols.Zeros, n):
		return symbols.Zeros
	case length > 0 && before && fits(symbols.Again, n):
		return symbols.Again
	}
	return length
}

func fits(symbol, n int) bool {
	least, _ := symbols.Run(symbol)
	return n >= least
}

func countsOfRuns(runs []run) []int {
	counts := make([]int, symbols.MostOrdered)
	for _, r := range runs {
		counts[r.symbol]++
	}
	return counts
}

// size tells how many bits a head has.
func (h head) size() int {
	n := 5 + 5 + 4 + 3*len(h.ordered) + h.code.cost(countsOfRuns(h.runs))
	for _, r := range h.runs {
		_, extra := symbols.Run(r.symbol)
		n += extra
	}
	return n
}

func (h head) write(w *bits.Writer) {
	w.Put(uint32(h.literals-symbols.LeastLiterals), 5)
	w.Put(uint32(h.distances-symbols.LeastDistances), 5)
	w.Put(uint32(len(h.ordered)-symbols.LeastOrdered), 4)
	for _, length := range h.ordered {
		w.Put(uint32(length), 3)
	}
	for _, r := range h.runs {
		h.code.write(r.symbol, w)
		_, extra := symbols.Run(r.symbol)
		w.Put(uint32(r.more), extra)
	}
}
