// Package draft writes files that are to get their names only when their bytes are durable, so that what a crash leaves under those names is always whole.
package draft

import (
	"stemma/api"
	"stemma/fs"
)

// Write makes the bytes of a file durable, but not its name. A file that a crash left there is in the way. What an error leaves unfinished stays.
func Write(f *fs.FS, name string, b []byte) api.Errno {
	if e := f.Remove(name); e != api.OK && e != api.ErrNone {
		return e
	}
	if e := f.Create(name); e != api.OK {
		return e
	}
	if e := f.Append(name, b); e != api.OK {
		return e
	}
	return f.Sync(name)
}
