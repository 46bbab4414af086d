package odb

import (
	"cmp"
	"slices"
	"strings"

	"stemma/api"
	"stemma/fs"
	"stemma/loose"
)

// view is what one call sees of the files.
type view struct {
	f     *fs.FS
	packs []packed // ascending by their ids
}

// place is where an object is.
type place interface {
	// id tells the ID that the object should have.
	id() string
}

// alone is the place of an object that has a file of its own.
type alone struct{ hash string }

// within is the place of an object that is in a pack, by the offset that the index tells.
type within struct {
	hash string
	pack packed
	at   int
}

func (p alone) id() string  { return p.hash }
func (p within) id() string { return p.hash }

func look(f *fs.FS) view {
	v := view{f: f}
	for _, id := range packsOf(f) {
		v.packs = append(v.packs, packedIn(f, id))
	}
	return v
}

// find tells where the object with this ID is. A pack whose index can't be read hides no object of another one; but without such an object it is unknown whether there is one. What is no Hash has no Path, and so no place.
func (v view) find(id string) (place, api.Errno) {
	if _, e := v.f.Read(loose.Path(id)); e == api.OK {
		return alone{id}, api.OK
	} else if e != api.ErrNone {
		return nil, e
	}
	unread := api.OK
	for _, p := range v.packs {
		l, e := p.listed()
		unread = cmp.Or(unread, e)
		if i, ok := slices.BinarySearchFunc(l, id, func(o api.Object, id string) int { return strings.Compare(o.ID, id) }); ok {
			return within{id, p, l[i].At}, api.OK
		}
	}
	return nil, cmp.Or(unread, api.ErrNone)
}

// get tells the object with this ID.
func (v view) get(id string) (api.Object, api.Errno) {
	p, e := v.find(id)
	if e != api.OK {
		return api.Object{}, e
	}
	if x, ok := p.(within); ok {
		return x.read()
	}
	kind, body, e := loose.Read(v.f, p.id())
	if e != api.OK {
		return api.Object{}, e
	}
	return api.Object{Kind: kind, Body: body, ID: p.id()}, api.OK
}

func (p within) read() (api.Object, api.Errno) {
	l, e := p.pack.objects()
	if e != api.OK {
		return api.Object{}, e
	}
	i, ok := slices.BinarySearchFunc(l, p.at, func(o api.Object, at int) int { return cmp.Compare(o.At, at) })
	if !ok || l[i].ID != p.hash {
		return api.Object{}, api.ErrSum
	}
	return l[i], api.OK
}

// ids tells the IDs of all objects, ascending.
func (v view) ids() []string {
	l := loose.IDs(v.f)
	for _, p := range v.packs {
		listed, _ := p.listed()
		l = append(l, idsOf(listed)...)
	}
	slices.Sort(l)
	return slices.Compact(l)
}

// all tells all objects. It fails where a pack's index can't be read, since nobody knows what else that has.
func (v view) all() ([]api.Object, api.Errno) {
	ids := v.ids()
	if len(ids) > api.MaxObjects {
		return nil, api.ErrBig
	}
	for _, p := range v.packs {
		if _, e := p.listed(); e != api.OK {
			return nil, e
		}
	}
	var l []api.Object
	for _, id := range ids {
		o, e := v.get(id)
		if e != api.OK {
			return nil, e
		}
		l = append(l, o)
	}
	return l, api.OK
}

func idsOf(l []api.Object) []string {
	var ids []string
	for _, o := range l {
		ids = append(ids, o.ID)
	}
	return ids
}
