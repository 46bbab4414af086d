package odb

import (
	"slices"

	"stemma/api"
	"stemma/draft"
	"stemma/fs"
	"stemma/idx"
	"stemma/loose"
	"stemma/object"
	"stemma/pack"
)

// parcel is a pack and its index, as they are written.
type parcel struct {
	id          string
	pack, index []byte
}

// Intake keeps the objects of a pack and tells their IDs. Bases that it lacks are kept with them, so that no pack hangs on what is elsewhere.
func (s *Store) Intake(b []byte) ([]string, api.Errno) {
	l, _, e := pack.Read(b)
	if e != api.OK {
		return nil, e
	}
	objects, bases, e := look(s.f).resolve(l)
	if e != api.OK || len(objects) == 0 {
		return nil, e
	}
	if e := parse(objects); e != api.OK {
		return nil, e
	}
	p, e := parcelOf(slices.Concat(objects, bases))
	if e != api.OK {
		return nil, e
	}
	if e := p.keep(s.f); e != api.OK {
		return nil, e
	}
	return idsOf(pack.Order(objects)), api.OK
}

// resolve tells the objects of entries, and those of the store that they are based on.
func (v view) resolve(l []pack.Raw) (objects, bases []api.Object, e api.Errno) {
	objects, e = pack.Resolve(l, func(id string) (int, []byte, bool) {
		o, e := v.get(id)
		if e != api.OK {
			return 0, nil, false
		}
		bases = append(bases, o)
		return o.Kind, o.Body, true
	})
	return objects, bases, e
}

// Repack makes one pack of everything.
func (s *Store) Repack() api.Errno {
	if s.f.Dead() { // which tells no names, so that there would seem to be nothing to do
		return api.ErrDead
	}
	if len(loose.IDs(s.f)) == 0 && len(s.Packs()) <= 1 {
		return api.OK
	}
	l, e := look(s.f).all()
	if e != api.OK {
		return e
	}
	p, e := parcelOf(l)
	if e != api.OK {
		return e
	}
	if e := p.keep(s.f); e != api.OK {
		return e
	}
	return s.leave(p.id)
}

// leave removes everything but one pack. An index goes ahead of its pack, so that none is left alone.
func (s *Store) leave(id string) api.Errno {
	var names []string
	for _, id := range loose.IDs(s.f) {
		names = append(names, loose.Path(id))
	}
	others := slices.DeleteFunc(s.Packs(), func(x string) bool { return x == id })
	for _, id := range others {
		names = append(names, indexName(id))
	}
	for _, id := range others {
		names = append(names, packName(id))
	}
	for _, name := range names {
		if e := s.f.Remove(name); e != api.OK {
			return e
		}
	}
	return s.f.SyncNames()
}

// parcelOf tells the pack of objects, each of them once, without any base outside.
func parcelOf(l []api.Object) (parcel, api.Errno) {
	l = pack.Order(l)
	if len(l) > api.MaxObjects {
		return parcel{}, api.ErrBig
	}
	b := pack.Write(l, nil)
	entries, id, e := pack.Read(b) // ErrBig if it got too long
	if e != api.OK {
		return parcel{}, e
	}
	placed, e := pack.Resolve(entries, nil)
	if e != api.OK {
		return parcel{}, e
	}
	index, e := idx.Build(placed, id)
	if e != api.OK {
		return parcel{}, e
	}
	return parcel{id, b, index}, api.OK
}

// keep writes both files. What an error left unfinished is removed, as far as that goes: it may take up most of what room there was.
func (p parcel) keep(f *fs.FS) api.Errno {
	made, index := unfinished+p.id+packEnd, unfinished+p.id+indexEnd
	e := p.write(f, made, index)
	if e != api.OK {
		f.Remove(made)
		f.Remove(index)
	}
	return e
}

// write makes the bytes durable before the files get their names, so that what a crash leaves there is always whole.
func (p parcel) write(f *fs.FS, made, index string) api.Errno {
	if e := draft.Write(f, made, p.pack); e != api.OK {
		return e
	}
	if e := draft.Write(f, index, p.index); e != api.OK {
		return e
	}
	if e := f.Rename(made, packName(p.id)); e != api.OK {
		return e
	}
	if e := f.Rename(index, indexName(p.id)); e != api.OK {
		return e
	}
	return f.SyncNames()
}

// parse tells the first error of objects that aren't what their kinds ask for.
func parse(l []api.Object) api.Errno {
	for _, o := range l {
		if _, e := object.Parse(o.Kind, o.Body); e != api.OK {
			return e
		}
	}
	return api.OK
}
