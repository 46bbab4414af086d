package fs

import (
	"slices"
	"strings"
)

// entry is a name and the number of its file; lists of entries are ascending by name.
type entry struct {
	name string
	file int
}

// change is a change of names as the journal keeps it: created, renamed or removed.
type change interface{ change() }

type created struct {
	name string
	file int
}

type renamed struct{ from, to string }

type removed struct{ name string }

func (created) change() {}
func (renamed) change() {}
func (removed) change() {}

// find tells where the name stands in l, or where it would.
func find(l []entry, name string) (int, bool) {
	return slices.BinarySearchFunc(l, name, func(n entry, s string) int {
		return strings.Compare(n.name, s)
	})
}

// put gives the name to the file; a file that had it before loses it.
func put(l []entry, name string, file int) []entry {
	i, ok := find(l, name)
	if ok {
		l[i].file = file
		return l
	}
	return slices.Insert(l, i, entry{name, file})
}

// drop takes the name away, and tells whose it was. It is there: only changes that succeed are made, and a crash makes them in the same order from the same start.
func drop(l []entry, name string) ([]entry, int) {
	i, _ := find(l, name)
	file := l[i].file
	return slices.Delete(l, i, i+1), file
}

// after makes the change in l. Calls and crashes both come here: a replayed change can't differ from the first one.
func after(l []entry, c change) []entry {
	if x, ok := c.(created); ok {
		return put(l, x.name, x.file)
	}
	if x, ok := c.(renamed); ok {
		l, file := drop(l, x.from)
		return put(l, x.to, file)
	}
	if x, ok := c.(removed); ok {
		l, _ = drop(l, x.name)
	}
	return l
}
