package pack

import (
	"slices"

	"stemma/api"
	"stemma/deflate"
	"stemma/object"
	"stemma/sum"
)

const level = 2 // of compression: the shortest

// entry is an object as it stands in a pack: what is ahead of the data, and the data, compressed.
type entry struct {
	head, data []byte
	deltas     int // on one another, by which the object is made
}

// Write tells a pack of the objects of l in their order. Those that are not what they say are left out.
func Write(l []api.Object, thin []api.Object) []byte {
	l = ordered(valid(l))
	s := newShelf()
	for _, o := range without(ordered(valid(thin)), l) {
		s.put(candidate{object: o, base: named{o.ID}})
	}
	n := uint32(len(l))
	b := append([]byte(signature), byte(n>>24), byte(n>>16), byte(n>>8), byte(n))
	for _, o := range l {
		e := s.entryOf(o, len(b))
		s.put(candidate{object: o, base: before{len(b)}, deltas: e.deltas})
		b = append(append(b, e.head...), e.data...)
	}
	return append(b, sum.SHA1(b)...)
}

func valid(l []api.Object) []api.Object {
	var out []api.Object
	for _, o := range l {
		if object.Name(o.Kind) != "" && len(o.Body) <= api.MaxObject && object.ID(o.Kind, o.Body) == o.ID {
			out = append(out, o)
		}
	}
	return out
}

// without tells the objects of l that are not among others. What is in a pack is had from there.
func without(l, others []api.Object) []api.Object {
	ids := map[string]struct{}{}
	for _, o := range others {
		ids[o.ID] = struct{}{}
	}
	return slices.DeleteFunc(l, func(o api.Object) bool {
		_, ok := ids[o.ID]
		return ok
	})
}

// entryOf tells the shortest entry for an object at an offset.
func (s *shelf) entryOf(o api.Object, at int) entry {
	plain := entry{head: Head(o.Kind, len(o.Body)), data: deflate.Zlib(o.Body, level)}
	d, ok := s.shortest(o, at)
	if !ok {
		return plain
	}
	e := entry{head: headOn(d.on.base, len(d.text), at), data: deflate.Zlib(d.text, level), deltas: d.on.deltas + 1}
	if e.size() < plain.size() {
		return e
	}
	return plain
}

func (e entry) size() int {
	return len(e.head) + len(e.data)
}
