package deflate

import "stemma/symbols"

// token is a byte, of which distance is 0, or a match.
type token struct {
	value    int // the byte, or the length of the match
	distance int
}

// size tells how many bytes of the text a token stands for.
func (t token) size() int {
	if t.distance == 0 {
		return 1
	}
	return t.value
}

// symbol tells the symbol of the literal code.
func (t token) symbol() int {
	if t.distance == 0 {
		return t.value
	}
	return symbols.OfLength(t.value)
}

// piece is a text, and the tokens that stand for it.
type piece struct {
	text   []byte
	tokens []token
}

func pieceOf(b []byte) piece {
	var l []token
	at := 0
	for _, m := range Matches(b, symbols.MostDistance) {
		l = append(l, literals(b[at:m.At])...)
		l = append(l, token{m.Len, m.Dist})
		at = m.At + m.Len
	}
	return piece{b, append(l, literals(b[at:])...)}
}

func literals(b []byte) []token {
	var l []token
	for _, x := range b {
		l = append(l, token{int(x), 0})
	}
	return l
}

// cut divides a piece into pieces each of which a stored block has room for; there is at least one.
func (p piece) cut() []piece {
	var l []piece
	first, from, at := 0, 0, 0
	for i, t := range p.tokens {
		if at+t.size()-from > mostStored {
			l = append(l, piece{p.text[from:at], p.tokens[first:i]})
			first, from = i, at
		}
		at += t.size()
	}
	return append(l, piece{p.text[from:], p.tokens[first:]})
}

// counts has how often each symbol of both codes occurs in a block.
type counts struct {
	literals, distances []int
}

func countsOf(tokens []token) counts {
	c := counts{make([]int, symbols.MostLiterals), make([]int, symbols.MostDistances)}
	for _, t := range tokens {
		c.literals[t.symbol()]++
		if t.distance > 0 {
			c.distances[symbols.OfDistance(t.distance)]++
		}
	}
	c.literals[symbols.End]++
	return c
}

// extra tells how many bits follow the symbols, in which lengths and distances are told exactly.
func (c counts) extra() int {
	sum := 0
	for symbol := symbols.End + 1; symbol <= symbols.LastLength; symbol++ {
		_, extra := symbols.Length(symbol)
		sum += c.literals[symbol] * extra
	}
	for symbol, n := range c.distances {
		_, extra := symbols.Distance(symbol)
		sum += n * extra
	}
	return sum
}
