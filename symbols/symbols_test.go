package symbols_test

import (
	"slices"
	"testing"

	"stemma/huff"
	"stemma/symbols"
)

// The extra bits of RFC 1951, 3.2.5; each symbol's span begins where the one before ends.
var (
	lengthExtra   = []int{0, 0, 0, 0, 0, 0, 0, 0, 1, 1, 1, 1, 2, 2, 2, 2, 3, 3, 3, 3, 4, 4, 4, 4, 5, 5, 5, 5}
	distanceExtra = []int{0, 0, 0, 0, 1, 1, 2, 2, 3, 3, 4, 4, 5, 5, 6, 6, 7, 7, 8, 8, 9, 9, 10, 10, 11, 11, 12, 12, 13, 13}
)

func TestLengths(t *testing.T) {
	next := symbols.LeastLength
	for i, bits := range lengthExtra {
		symbol := symbols.End + 1 + i
		if least, extra := symbols.Length(symbol); least != next || extra != bits {
			t.Error(symbol, least, extra, "not", next, bits)
		}
		for range 1 << bits {
			want := symbol
			if next == symbols.MostLength { // its own symbol is shorter
				want = symbols.LastLength
			}
			if got := symbols.OfLength(next); got != want {
				t.Error(next, got, "not", want)
			}
			next++
		}
	}
	if least, extra := symbols.Length(285); least != 258 || extra != 0 || next != 259 {
		t.Error(least, extra, next)
	}
}

func TestDistances(t *testing.T) {
	next := symbols.LeastDistance
	for symbol, bits := range distanceExtra {
		if least, extra := symbols.Distance(symbol); least != next || extra != bits {
			t.Error(symbol, least, extra, "not", next, bits)
		}
		for range 1 << bits {
			if got := symbols.OfDistance(next); got != symbol {
				t.Error(next, got, "not", symbol)
			}
			next++
		}
	}
	if next != 32769 || symbols.MostDistance != 32768 {
		t.Error(next)
	}
}

func TestFixedLengths(t *testing.T) {
	literals, distances := symbols.FixedLengths()
	for symbol, length := range literals {
		want := 8
		if symbol >= 144 && symbol < 256 {
			want = 9
		} else if symbol >= 256 && symbol < 280 {
			want = 7
		}
		if length != want {
			t.Error(symbol, length, "not", want)
		}
	}
	if len(literals) != 288 || !slices.Equal(distances, slices.Repeat([]int{5}, 32)) || !huff.Complete(literals) || !huff.Complete(distances) {
		t.Error(len(literals), distances)
	}
	literals[0], distances[0] = 1, 1
	if l, d := symbols.FixedLengths(); l[0] != 8 || d[0] != 5 {
		t.Error("changed by a caller")
	}
}

func TestRuns(t *testing.T) {
	for symbol := range 16 {
		if least, extra := symbols.Run(symbol); least != 1 || extra != 0 {
			t.Error(symbol, least, extra)
		}
	}
	for symbol, want := range map[int][2]int{symbols.Again: {3, 6}, symbols.Zeros: {3, 10}, symbols.ManyZeros: {11, 138}} {
		if least, extra := symbols.Run(symbol); [2]int{least, least + 1<<extra - 1} != want {
			t.Error(symbol, least, extra)
		}
	}
	var order []int
	for i := range symbols.MostOrdered {
		order = append(order, symbols.Ordered(i))
	}
	if !slices.Equal(order, []int{16, 17, 18, 0, 8, 7, 9, 6, 10, 5, 11, 4, 12, 3, 13, 2, 14, 1, 15}) {
		t.Error(order)
	}
}
