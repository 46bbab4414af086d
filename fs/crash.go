package fs

import "slices"

// Crash loses data that are not durable, except for the first changes of names and the first bytes that it is told to keep.
func (f *FS) Crash(names int, data []int) {
	f.names = f.durable
	for _, c := range f.journal[:within(names, len(f.journal))] {
		f.names = after(f.names, c)
	}
	for i, n := range f.names {
		more := 0
		if i < len(data) {
			more = data[i]
		}
		f.files[n.file].cut(more)
	}
	f.settle()
	f.left, f.dead = noLimit, false
}

// cut loses the bytes that are not durable, but for the first more ones, which become so.
func (x *file) cut(more int) {
	x.synced += within(more, len(x.data)-x.synced)
	x.data = x.data[:x.synced]
}

// note makes a change of names that a crash may undo.
func (f *FS) note(c change) {
	f.names = after(f.names, c)
	f.journal = append(f.journal, c)
}

// settle makes the present names durable. No crash can bring back a file without a name then, so only the others stay, numbered anew.
func (f *FS) settle() {
	kept := make([]file, len(f.names))
	for i, n := range f.names {
		kept[i] = f.files[n.file]
		f.names[i].file = i
	}
	f.files, f.durable, f.journal = kept, slices.Clone(f.names), nil
}

func within(n, most int) int {
	return min(max(n, 0), most)
}
