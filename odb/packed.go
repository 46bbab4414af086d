package odb

import (
	"slices"
	"strings"

	"stemma/api"
	"stemma/fs"
	"stemma/idx"
	"stemma/object"
	"stemma/pack"
)

const (
	packs      = "objects/pack/pack-"
	packEnd    = ".pack"
	indexEnd   = ".idx"
	unfinished = "tmp/"
)

func packName(id string) string {
	return packs + id + packEnd
}

func indexName(id string) string {
	return packs + id + indexEnd
}

// packsOf tells the ids of the packs of a file system, ascending as their names.
func packsOf(f *fs.FS) []string {
	var l []string
	names := f.List(packs)
	for _, name := range names {
		id, ok := strings.CutSuffix(name[len(packs):], packEnd)
		if !ok || !object.Hash(id) {
			continue
		}
		if _, ok := slices.BinarySearch(names, indexName(id)); ok {
			l = append(l, id)
		}
	}
	return l
}

// packed is a pack. What its files have is read when it is asked for, and once, however often that is.
type packed struct {
	listed  func() ([]api.Object, api.Errno) // what the index has, ascending by ID
	objects func() ([]api.Object, api.Errno) // what the pack has, ascending by At
}

func packedIn(f *fs.FS, id string) packed {
	return packed{
		listed:  remembered(func() ([]api.Object, api.Errno) { return listedIn(f, id) }),
		objects: remembered(func() ([]api.Object, api.Errno) { return objectsIn(f, id) }),
	}
}

// remembered tells what read tells the first time.
func remembered(read func() ([]api.Object, api.Errno)) func() ([]api.Object, api.Errno) {
	var l []api.Object
	var e api.Errno
	known := false
	return func() ([]api.Object, api.Errno) {
		if !known {
			l, e = read()
			known = true
		}
		return l, e
	}
}

func listedIn(f *fs.FS, id string) ([]api.Object, api.Errno) {
	b, e := f.Read(indexName(id))
	if e != api.OK {
		return nil, e
	}
	l, _, e := idx.Parse(b)
	return l, e
}

func objectsIn(f *fs.FS, id string) ([]api.Object, api.Errno) {
	b, e := f.Read(packName(id))
	if e != api.OK {
		return nil, e
	}
	l, _, e := pack.Read(b)
	if e != api.OK {
		return nil, e
	}
	return pack.Resolve(l, nil)
}
