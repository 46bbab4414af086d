package inflate

import (
	"stemma/api"
	"stemma/bits"
	"stemma/huff"
	"stemma/symbols"
)

const types = 3 // of blocks

// reader reads the blocks of in. The result so far is out, the window into which matches reach back.
type reader struct {
	in    *bits.Reader
	out   []byte
	most  int
	known *codes // the fixed ones, once a block has needed them: there may be a block for every ten bits
}

// kinds tells how a block is read, by its type.
func kinds() [types]func(*reader) api.Errno {
	return [...]func(*reader) api.Errno{(*reader).stored, (*reader).fixed, (*reader).dynamic}
}

// blocks reads blocks up to the one that calls itself the last.
func (r *reader) blocks() api.Errno {
	read := kinds()
	for last := false; !last; {
		head, e := r.take(3)
		if e != api.OK {
			return e
		}
		last = head&1 == 1
		kind := head >> 1
		if kind >= len(read) {
			return api.ErrForm
		}
		if e := read[kind](r); e != api.OK {
			return e
		}
	}
	return api.OK
}

// stored reads a block of bytes as they are.
func (r *reader) stored() api.Errno {
	r.in.Align()
	size, e := r.take(16)
	if e != api.OK {
		return e
	}
	complement, e := r.take(16)
	if e != api.OK {
		return e
	}
	if size^complement != 0xffff {
		return api.ErrForm
	}
	for range size {
		x, e := r.take(8)
		if e != api.OK {
			return e
		}
		if e := r.put(byte(x)); e != api.OK {
			return e
		}
	}
	return api.OK
}

// fixed reads a block with the codes that are always the same.
func (r *reader) fixed() api.Errno {
	if r.known == nil {
		c, e := codesOf(symbols.FixedLengths())
		if e != api.OK {
			return e
		}
		r.known = c
	}
	return r.coded(r.known)
}

// dynamic reads a block that begins with its codes.
func (r *reader) dynamic() api.Errno {
	c, e := r.codes()
	if e != api.OK {
		return e
	}
	return r.coded(c)
}

// coded reads runs of literals, each of them followed by a match, and in the last one the end of the block.
func (r *reader) coded(c *codes) api.Errno {
runs:
	for {
		symbol, e := c.literals.Read(r.in)
		for ; e == api.OK && symbol <= symbols.End; symbol, e = c.literals.Read(r.in) {
			if symbol == symbols.End {
				break runs
			}
			if e := r.put(byte(symbol)); e != api.OK {
				return e
			}
		}
		if e != api.OK {
			return e
		}
		if e := r.match(symbol, c.distances); e != api.OK {
			return e
		}
	}
	return api.OK
}

// match reads the rest of a match, and repeats what it names.
func (r *reader) match(symbol int, distances *huff.Code) api.Errno {
	length, e := r.length(symbol)
	if e != api.OK {
		return e
	}
	distance, e := r.distance(distances)
	if e != api.OK {
		return e
	}
	if distance > len(r.out) {
		return api.ErrForm
	}
	if len(r.out)+length > r.most {
		return api.ErrBig
	}
	for range length { // one by one, since a match may reach into itself
		r.out = append(r.out, r.out[len(r.out)-distance])
	}
	return api.OK
}

func (r *reader) length(symbol int) (int, api.Errno) {
	if symbol > symbols.LastLength {
		return 0, api.ErrForm
	}
	least, extra := symbols.Length(symbol)
	return r.count(extra, least)
}

func (r *reader) distance(code *huff.Code) (int, api.Errno) {
	symbol, e := code.Read(r.in)
	if e != api.OK {
		return 0, e
	}
	if symbol > symbols.LastDistance {
		return 0, api.ErrForm
	}
	least, extra := symbols.Distance(symbol)
	return r.count(extra, least)
}

// put adds a byte to the result, unless this has all that it may have.
func (r *reader) put(x byte) api.Errno {
	if len(r.out) >= r.most {
		return api.ErrBig
	}
	r.out = append(r.out, x)
	return api.OK
}

// count tells a number that is written in n bits as what it is above least.
func (r *reader) count(n, least int) (int, api.Errno) {
	v, e := r.take(n)
	if e != api.OK {
		return 0, e
	}
	return least + v, api.OK
}

// take tells the next n bits as a number.
func (r *reader) take(n int) (int, api.Errno) {
	v, ok := r.in.Take(n)
	if !ok {
		return 0, api.ErrTorn
	}
	return int(v), api.OK
}
