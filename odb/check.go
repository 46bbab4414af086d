package odb

import (
	"bytes"
	"slices"
	"strings"

	"stemma/api"
	"stemma/fs"
	"stemma/idx"
	"stemma/loose"
	"stemma/pack"
)

// Check tells the first error of all that is there.
func (s *Store) Check() api.Errno {
	if s.f.Dead() { // which tells no names, so that nothing would be looked at
		return api.ErrDead
	}
	for _, id := range loose.IDs(s.f) {
		kind, body, e := loose.Read(s.f, id)
		if e != api.OK {
			return e
		}
		if e := parse([]api.Object{{Kind: kind, Body: body}}); e != api.OK {
			return e
		}
	}
	for _, id := range s.Packs() {
		if e := checkPack(s.f, id); e != api.OK {
			return e
		}
	}
	return api.OK
}

// checkPack does so for a pack. Its files are named by its id, so that a name tells one too.
func checkPack(f *fs.FS, name string) api.Errno {
	b, e := f.Read(packName(name))
	if e != api.OK {
		return e
	}
	entries, id, e := pack.Read(b)
	if e != api.OK {
		return e
	}
	index, e := f.Read(indexName(name))
	if e != api.OK {
		return e
	}
	if _, _, e := idx.Parse(index); e != api.OK {
		return e
	}
	l, e := pack.Resolve(entries, nil)
	if e != api.OK {
		return e
	}
	if made, e := idx.Build(l, id); e != api.OK || !bytes.Equal(made, index) || id != name {
		return api.ErrForm
	}
	slices.SortFunc(l, func(a, b api.Object) int { return strings.Compare(a.ID, b.ID) })
	return parse(l)
}
