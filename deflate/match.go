package deflate

import "stemma/symbols"

// mostTries bounds how many positions are held against one, the nearest ones first.
const mostTries = 256

const none = -1

// Match is a place of a text where Len bytes are the same as those Dist positions before.
type Match struct{ At, Len, Dist int }

// Matches tells where b repeats what it has at most reach positions before.
func Matches(b []byte, reach int) []Match {
	f := &finder{text: b, reach: min(reach, symbols.MostDistance), latest: map[triple]int{}}
	var l []Match
	for at := 0; at < len(b); at = len(f.earlier) {
		m := f.longest(at)
		if m.Len > 0 {
			l = append(l, m)
		}
		f.pass(max(m.Len, 1))
	}
	return l
}

// triple is what the shortest match repeats.
type triple [symbols.LeastLength]byte

// finder goes through a text, and knows at which of the positions passed each triple stands.
type finder struct {
	text    []byte
	reach   int
	latest  map[triple]int // the last position of each
	earlier []int          // of each position, the one before it of the same triple
}

// pass goes n positions on.
func (f *finder) pass(n int) {
	for range n {
		at := len(f.earlier)
		f.earlier = append(f.earlier, f.nearest(at))
		if f.begins(at) {
			f.latest[f.triple(at)] = at
		}
	}
}

// begins tells whether a triple begins at a position: at the end there are too few bytes.
func (f *finder) begins(at int) bool {
	return at+symbols.LeastLength <= len(f.text)
}

func (f *finder) triple(at int) triple {
	return triple(f.text[at:])
}

// nearest tells the last position passed of the triple at a position.
func (f *finder) nearest(at int) int {
	if f.begins(at) {
		if p, ok := f.latest[f.triple(at)]; ok {
			return p
		}
	}
	return none
}

// longest tells the longest match at a position among those tried, and of several the nearest; without one, a Match of no length.
func (f *finder) longest(at int) Match {
	var best Match
	most := min(symbols.MostLength, len(f.text)-at)
	p := f.nearest(at)
	for tries := 0; tries < mostTries && best.Len < most && p != none && at-p <= f.reach; tries++ {
		if n := f.common(p, at, most); n > best.Len {
			best = Match{at, n, at - p}
		}
		p = f.earlier[p]
	}
	return best
}

// common tells how many bytes, at most most, are the same from both positions on.
func (f *finder) common(p, at, most int) int {
	n := 0
	for n < most && f.text[p+n] == f.text[at+n] {
		n++
	}
	return n
}
