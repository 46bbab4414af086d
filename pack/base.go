package pack

import (
	"stemma/api"
	"stemma/sum"
)

// base is what a delta is based on: an entry before it, or an object by its ID.
type base interface {
	// kind tells that of the entries with such a base.
	kind() int
}

// before is an entry of the same pack, by the offset where it begins.
type before struct{ at int }

// named is an object that may be in the same pack or not.
type named struct{ id string }

func (b before) kind() int {
	return api.KOfs
}

func (b named) kind() int {
	return api.KRef
}

// baseOf tells the base of an entry, nil if that is no delta.
func baseOf(r Raw) base {
	switch r.Kind {
	case api.KOfs:
		return before{r.Off}
	case api.KRef:
		return named{r.Base}
	}
	return nil
}

// headOn tells what stands ahead of the data of a delta that begins at an offset.
func headOn(b base, size, at int) []byte {
	head := Head(b.kind(), size)
	if x, ok := b.(before); ok {
		head = append(head, Back(at-x.at)...)
	} else if x, ok := b.(named); ok {
		id, _ := sum.Unhex(x.id)
		head = append(head, id...)
	}
	return head
}
