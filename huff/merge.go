package huff

import (
	"cmp"
	"slices"
)

// coin stands for one bit of a symbol's code. It costs what the symbol's count is.
type coin struct {
	symbol, cost int
}

// item is a coin, or a pair of items of the level below in one package.
type item struct {
	cost int
	pair bool
}

// countable tells whether each of counts is within its bounds.
func countable(counts []int) bool {
	return !slices.ContainsFunc(counts, func(n int) bool { return n < 0 || n > mostCount })
}

// coinsOf tells a coin for each symbol that needs a code, the cheapest one first.
func coinsOf(counts []int) []coin {
	var coins []coin
	for symbol, n := range counts {
		if n > 0 {
			coins = append(coins, coin{symbol, n})
		}
	}
	slices.SortStableFunc(coins, func(a, b coin) int { return cmp.Compare(a.cost, b.cost) })
	return coins
}

// levelsOf tells the items of each level, from the one of the last bit that a code may have to the one of the first bit.
func levelsOf(coins []coin, most int) [][]item {
	var levels [][]item
	var below []item
	for range most {
		below = merged(coins, below)
		levels = append(levels, below)
	}
	return levels
}

// merged tells the items of a level, the cheapest one first: all coins, and the items of the level below in pairs.
func merged(coins []coin, below []item) []item {
	var items []item
	pairs := pairsOf(below)
	for _, c := range coins {
		for len(pairs) > 0 && pairs[0].cost < c.cost {
			items, pairs = append(items, pairs[0]), pairs[1:]
		}
		items = append(items, item{c.cost, false})
	}
	return append(items, pairs...)
}

// pairsOf leaves out the last one of an odd number of items, which can only be dearer than the others.
func pairsOf(items []item) []item {
	var pairs []item
	for pair := range slices.Chunk(items, 2) {
		if len(pair) == 2 {
			pairs = append(pairs, item{pair[0].cost + pair[1].cost, true})
		}
	}
	return pairs
}

// lengthen adds a bit to the code of a symbol for each of its coins among the cheapest items of the first bit that make a complete code, and among the items packed in these.
func lengthen(lengths []int, coins []coin, levels [][]item) {
	bought := 2*len(coins) - 2
	for _, items := range slices.Backward(levels) {
		pairs := pairsAmong(items[:bought])
		for _, c := range coins[:bought-pairs] {
			lengths[c.symbol]++
		}
		bought = 2 * pairs
	}
}

func pairsAmong(items []item) int {
	n := 0
	for _, it := range items {
		if it.pair {
			n++
		}
	}
	return n
}
