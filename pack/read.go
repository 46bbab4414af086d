package pack

import (
	"slices"

	"stemma/api"
	"stemma/inflate"
	"stemma/sum"
)

// spare is how many bytes the zlib format may have beyond those of a small text, for nearly all texts.
const spare = 64

// reader reads the pack b; the bytes before at are read.
type reader struct {
	b  []byte
	at int
}

// Read tells the entries of a pack, and its id.
func Read(b []byte) (l []Raw, id string, e api.Errno) {
	if len(b) > api.MaxPack {
		return nil, "", api.ErrBig
	}
	r := &reader{b: b}
	l, e = r.entries()
	if e != api.OK {
		return nil, "", e
	}
	id, e = r.end()
	if e != api.OK {
		return nil, "", e
	}
	return l, id, api.OK
}

func (r *reader) entries() ([]Raw, api.Errno) {
	n, e := r.start()
	if e != api.OK {
		return nil, e
	}
	var l []Raw
	for range n {
		raw, e := r.entry()
		if e != api.OK {
			return nil, e
		}
		l = append(l, raw)
	}
	return l, api.OK
}

// start reads what is ahead of the entries, and tells how many there are.
func (r *reader) start() (int, api.Errno) {
	for i := range len(signature) {
		x, e := r.take(1)
		if e != api.OK {
			return 0, e
		}
		if x[0] != signature[i] {
			return 0, api.ErrForm
		}
	}
	word, e := r.take(wordSize)
	if e != api.OK {
		return 0, e
	}
	n := uint32(word[0])<<24 | uint32(word[1])<<16 | uint32(word[2])<<8 | uint32(word[3])
	if n > api.MaxObjects {
		return 0, api.ErrBig
	}
	return int(n), api.OK
}

func (r *reader) entry() (Raw, api.Errno) {
	raw := Raw{At: r.at}
	for _, part := range []func(*Raw) api.Errno{r.head, r.base, r.data} {
		if e := part(&raw); e != api.OK {
			return Raw{}, e
		}
	}
	raw.CRC = sum.CRC(r.b[raw.At:r.at])
	return raw, api.OK
}

// head reads kind and size.
func (r *reader) head(raw *Raw) api.Errno {
	if r.at == len(r.b) {
		return api.ErrTorn
	}
	raw.Kind = int(r.b[r.at]%goesOn) >> inFirst
	if !isKind(raw.Kind) {
		return api.ErrForm
	}
	groups, e := r.groups()
	if e != api.OK {
		return e
	}
	if len(groups) > mostGroups {
		return api.ErrForm
	}
	size := uint64(groups[0] % (1 << inFirst))
	for i, x := range groups[1:] {
		size |= uint64(x%goesOn) << (inFirst + groupSize*i)
	}
	if size > mostSize {
		return api.ErrForm
	}
	if size > api.MaxObject {
		return api.ErrBig
	}
	raw.Size = int(size)
	return api.OK
}

func isKind(kind int) bool {
	return kind != 0 && kind != 5
}

// base reads where the base of a delta is, or its hash.
func (r *reader) base(raw *Raw) api.Errno {
	switch raw.Kind {
	case api.KOfs:
		return r.offset(raw)
	case api.KRef:
		return r.hash(raw)
	}
	return api.OK
}

func (r *reader) offset(raw *Raw) api.Errno {
	groups, e := r.groups()
	if e != api.OK {
		return e
	}
	if len(groups) > mostGroups {
		return api.ErrForm
	}
	back := uint64(groups[0] % goesOn)
	for _, x := range groups[1:] {
		back = (back+1)<<groupSize | uint64(x%goesOn)
	}
	if back == 0 || back > uint64(raw.At) {
		return api.ErrForm
	}
	raw.Off = raw.At - int(back)
	return api.OK
}

func (r *reader) hash(raw *Raw) api.Errno {
	b, e := r.take(hashSize)
	if e != api.OK {
		return e
	}
	raw.Base = sum.Hex(b)
	return api.OK
}

// data reads and decompresses the data. inflate copies what it is given, so that it is given all the rest only where less won't do.
func (r *reader) data(raw *Raw) api.Errno {
	rest := r.b[r.at:]
	n := min(raw.Size+spare, len(rest))
	data, used, e := inflate.Zlib(rest[:n], api.MaxObject)
	for e == api.ErrTorn && n < len(rest) {
		n = min(2*n, len(rest))
		data, used, e = inflate.Zlib(rest[:n], api.MaxObject)
	}
	if e != api.OK {
		return e
	}
	if len(data) != raw.Size {
		return api.ErrForm
	}
	raw.Data = data
	r.at += used
	return api.OK
}

// end reads what is behind the entries.
func (r *reader) end() (string, api.Errno) {
	digest := sum.SHA1(r.b[:r.at])
	b, e := r.take(hashSize)
	if e != api.OK {
		return "", e
	}
	if !slices.Equal(b, digest) {
		return "", api.ErrSum
	}
	if r.at < len(r.b) {
		return "", api.ErrForm
	}
	return sum.Hex(b), api.OK
}

// groups goes on to behind the first byte after which no group follows.
func (r *reader) groups() ([]byte, api.Errno) {
	last := slices.IndexFunc(r.b[r.at:], func(x byte) bool { return x < goesOn })
	if last < 0 {
		return nil, api.ErrTorn
	}
	return r.take(last + 1)
}

// take goes on by n bytes.
func (r *reader) take(n int) ([]byte, api.Errno) {
	if n > len(r.b)-r.at {
		return nil, api.ErrTorn
	}
	r.at += n
	return r.b[r.at-n : r.at], api.OK
}
