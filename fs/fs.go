// Package fs is a file system that can lose in a crash what was not made durable (chapter 1).
package fs

import (
	"slices"
	"strings"

	"stemma/api"
)

const (
	maxName  = 200
	maxQuota = 1 << 24
	noLimit  = -1
)

// FS is a file system. The journal leads from the durable names to the present ones, so that a crash can stop halfway.
type FS struct {
	quota   int
	files   []file
	names   []entry
	durable []entry
	journal []change
	left    int // changes until the file system dies; any negative number is no limit
	dead    bool
}

// file is what one Create made, whatever names it has had since; a crash keeps its first synced bytes.
type file struct {
	data   []byte
	synced int
}

// New makes an empty file system.
func New(quota int) (*FS, api.Errno) {
	if quota < 0 || quota > maxQuota {
		return nil, api.ErrArg
	}
	return &FS{quota: quota, left: noLimit}, api.OK
}

// Create makes an empty file.
func (f *FS) Create(name string) api.Errno {
	_, e := f.open(name)
	if e == api.OK {
		return api.ErrThere
	}
	if e != api.ErrNone {
		return e
	}
	if e := f.spend(); e != api.OK {
		return e
	}
	f.files = append(f.files, file{})
	f.note(created{strings.Clone(name), len(f.files) - 1})
	return api.OK
}

// Append adds bytes to the end of a file.
func (f *FS) Append(name string, b []byte) api.Errno {
	n, e := f.open(name)
	if e != api.OK {
		return e
	}
	if f.Used()+len(b) > f.quota {
		return api.ErrFull
	}
	if e := f.spend(); e != api.OK {
		return e
	}
	f.files[n].data = append(f.files[n].data, b...)
	return api.OK
}

// Read tells a file's bytes.
func (f *FS) Read(name string) ([]byte, api.Errno) {
	n, e := f.open(name)
	if e != api.OK {
		return nil, e
	}
	return slices.Clone(f.files[n].data), api.OK
}

// Sync makes a file's bytes durable, but not its name.
func (f *FS) Sync(name string) api.Errno {
	n, e := f.open(name)
	if e != api.OK {
		return e
	}
	if e := f.spend(); e != api.OK {
		return e
	}
	f.files[n].synced = len(f.files[n].data)
	return api.OK
}

// Rename moves a file to another name, over the file that had it.
func (f *FS) Rename(from, to string) api.Errno {
	_, e := f.open(from)
	if e != api.ErrDead && !valid(to) {
		return api.ErrArg
	}
	if e != api.OK {
		return e
	}
	if e := f.spend(); e != api.OK {
		return e
	}
	if from != to { // else nothing changes, and the journal must not count it
		f.note(renamed{strings.Clone(from), strings.Clone(to)})
	}
	return api.OK
}

// Remove takes a file's name away.
func (f *FS) Remove(name string) api.Errno {
	_, e := f.open(name)
	if e != api.OK {
		return e
	}
	if e := f.spend(); e != api.OK {
		return e
	}
	f.note(removed{strings.Clone(name)})
	return api.OK
}

// SyncNames makes the names durable, but not the files' bytes.
func (f *FS) SyncNames() api.Errno {
	if e := f.spend(); e != api.OK {
		return e
	}
	f.settle()
	return api.OK
}

// List tells the names that begin with prefix, in ascending order.
func (f *FS) List(prefix string) []string {
	if f.dead {
		return nil
	}
	var l []string
	i, _ := find(f.names, prefix)
	for ; i < len(f.names) && strings.HasPrefix(f.names[i].name, prefix); i++ {
		l = append(l, f.names[i].name)
	}
	return l
}

// Used tells the bytes of all files that have names.
func (f *FS) Used() int {
	sum := 0
	for _, n := range f.names {
		sum += len(f.files[n.file].data)
	}
	return sum
}

// Fuse lets k more changes succeed before the file system dies; a negative k lets all.
func (f *FS) Fuse(k int) {
	f.left = k
}

// Dead tells whether the file system is dead.
func (f *FS) Dead() bool {
	return f.dead
}

// Copy makes an independent file system in the same state.
func (f *FS) Copy() *FS {
	c := *f
	c.names = slices.Clone(f.names)
	c.durable = slices.Clone(f.durable)
	c.journal = slices.Clone(f.journal)
	c.files = slices.Clone(f.files)
	for i := range c.files {
		c.files[i].data = slices.Clone(c.files[i].data)
	}
	return &c
}

// open finds the number of the file that has the name.
func (f *FS) open(name string) (int, api.Errno) {
	if f.dead {
		return 0, api.ErrDead
	}
	if !valid(name) {
		return 0, api.ErrArg
	}
	i, ok := find(f.names, name)
	if !ok {
		return 0, api.ErrNone
	}
	return f.names[i].file, api.OK
}

// spend is asked last, ahead of the change itself: a call with another error must not count.
func (f *FS) spend() api.Errno {
	if f.dead || f.left == 0 {
		f.dead = true
		return api.ErrDead
	}
	if f.left > 0 {
		f.left--
	}
	return api.OK
}

func valid(name string) bool {
	return len(name) >= 1 && len(name) <= maxName && strings.IndexByte(name, 0) < 0
}
