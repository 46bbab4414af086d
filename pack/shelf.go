package pack

import (
	"bytes"
	"slices"

	"stemma/api"
	"stemma/delta"
)

const (
	mostTries = 8  // of bases for an object
	stride    = 64 // bytes that are held against others at once
)

// shelf has what deltas can be based on, and knows which of it have which marks.
type shelf struct {
	candidates []candidate
	having     map[mark][]int
}

// candidate is an object on which a delta can be based.
type candidate struct {
	object api.Object
	base   base
	deltas int // on one another, by which the object is made
}

// difference is a delta, and what it is based on.
type difference struct {
	on   candidate
	text []byte
}

func newShelf() *shelf {
	return &shelf{having: map[mark][]int{}}
}

// put adds a candidate, unless too many deltas would be based on one another.
func (s *shelf) put(c candidate) {
	if c.deltas >= api.MaxDeep {
		return
	}
	for _, m := range marksOf(c.object) {
		s.having[m] = append(s.having[m], len(s.candidates))
	}
	s.candidates = append(s.candidates, c)
}

// shortest tells the shortest delta that makes an object at an offset, if one is shorter than the object.
func (s *shelf) shortest(o api.Object, at int) (best difference, ok bool) {
	least := len(o.Body)
	for _, c := range s.likest(o) {
		text := delta.Make(c.object.Body, o.Body)
		if n := len(headOn(c.base, len(text), at)) + len(text); n < least {
			best, ok, least = difference{c, text}, true, n
		}
	}
	return best, ok
}

// likest tells the candidates to try for an object: the one that begins and ends most as it does, and then those that have the most of its marks.
func (s *shelf) likest(o api.Object) []candidate {
	shared := s.shared(o)
	if i, ok := s.nearest(o); ok {
		shared[i] += mostMarks + 1
	}
	var l []candidate
	for range min(mostTries, len(shared)) {
		i := slices.Index(shared, slices.Max(shared))
		if shared[i] == 0 {
			break
		}
		l = append(l, s.candidates[i])
		shared[i] = 0
	}
	return l
}

// shared tells of each candidate how many marks of an object it has.
func (s *shelf) shared(o api.Object) []int {
	n := make([]int, len(s.candidates))
	for _, m := range marksOf(o) {
		for _, i := range s.having[m] {
			n[i]++
		}
	}
	return n
}

// nearest tells which candidate has the most bytes in common with the beginning and the end of an object. That finds a text in which little was changed at one place even where many others have the same blocks, in another order.
func (s *shelf) nearest(o api.Object) (best int, ok bool) {
	most := 0
	for i, c := range s.candidates {
		if c.object.Kind != o.Kind {
			continue
		}
		if n := ends(c.object.Body, o.Body); n > most {
			best, ok, most = i, true, n
		}
	}
	return best, ok
}

// ends tells how many bytes are in common at the beginning and at the end, none of them in both.
func ends(a, b []byte) int {
	n := min(len(a), len(b))
	first := 0
	for first+stride <= n && bytes.Equal(a[first:first+stride], b[first:first+stride]) {
		first += stride
	}
	for first < n && a[first] == b[first] {
		first++
	}
	a, b, n = a[first:], b[first:], n-first
	last := 0
	for last+stride <= n && bytes.Equal(a[len(a)-last-stride:len(a)-last], b[len(b)-last-stride:len(b)-last]) {
		last += stride
	}
	for last < n && a[len(a)-last-1] == b[len(b)-last-1] {
		last++
	}
	return first + last
}
