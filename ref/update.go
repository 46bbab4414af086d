package ref

import "stemma/api"

// Update changes refs, all of them or none, and tells how many.
func (r *Refs) Update(l []api.Change) (int, api.Errno) {
	if len(l) == 0 {
		return 0, api.OK
	}
	if i := firstWrong(l); i >= 0 {
		return i, api.ErrArg
	}
	packed, e := r.packed()
	if e != api.OK {
		return 0, e
	}
	refs := r.all(packed)
	if i := firstStale(refs, l); i >= 0 {
		return i, api.ErrStale
	}
	changes := changesOf(l)
	if i := firstUnder(after(refs, changes), l); i >= 0 {
		return i, api.ErrUnder
	}
	if e := r.perform(packed, changes); e != api.OK {
		return 0, e
	}
	return len(l), api.OK
}

// perform makes all changes at one moment, by the last rename. What they concern is packed ahead of that, since it would hide them otherwise; no ref changes by this. A crash keeps the first ones of these steps, so that nothing between has to be durable; and all bytes are written ahead of the first step that anybody sees, so that none of them can lack space.
func (r *Refs) perform(packed []api.Ref, changes []change) api.Errno {
	if e := r.write(packedLock, Packed(after(packed, changes))); e != api.OK {
		return e
	}
	if e := r.fold(packed, r.filesOf(changes)); e != api.OK {
		r.f.Remove(packedLock)
		return e
	}
	if e := r.f.Rename(packedLock, packedFile); e != api.OK {
		return e
	}
	return r.f.SyncNames()
}

// fold packs the refs that these files are, beside those that are packed, and removes the files.
func (r *Refs) fold(packed []api.Ref, files []string) api.Errno {
	if len(files) == 0 {
		return api.OK
	}
	if e := r.write(looseLock, Packed(after(packed, r.looseOf(files)))); e != api.OK {
		return e
	}
	if e := r.f.Rename(looseLock, packedFile); e != api.OK {
		return e
	}
	for _, file := range files {
		if e := r.f.Remove(file); e != api.OK {
			return e
		}
	}
	return api.OK
}

// filesOf tells the files that have the names of changed refs. One that is no ref is among them, since it may become one when a crash cuts it off.
func (r *Refs) filesOf(changes []change) []string {
	var files []string
	for _, c := range changes {
		if _, e := r.f.Read(c.of()); e == api.OK {
			files = append(files, c.of())
		}
	}
	return files
}

// looseOf tells the refs that these files are, each as if it were set.
func (r *Refs) looseOf(files []string) []change {
	var l []change
	for _, file := range files {
		if id, ok := r.loose(file); ok {
			l = append(l, set{file, id})
		}
	}
	return l
}

// Pack makes all refs packed, and none loose.
func (r *Refs) Pack() api.Errno {
	packed, e := r.packed()
	if e != api.OK {
		return e
	}
	var files []string
	for _, c := range r.looseOf(r.f.List(root)) {
		files = append(files, c.of())
	}
	if len(files) == 0 {
		return api.OK
	}
	if e := r.fold(packed, files); e != api.OK {
		return e
	}
	return r.f.SyncNames()
}
