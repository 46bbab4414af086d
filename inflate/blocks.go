package inflate

import (
	"stemma/api"
	"stemma/bits"
	"stemma/huff"
)

const types = 3 // of blocks

// Symbols. Literals are those below end, lengths of matches those above it.
const (
	end          = 256
	lastLength   = 285 // stands for mostLength alone: its span would begin beyond that
	lastDistance = 29
)

const (
	leastLength   = 3
	mostLength    = 258
	leastDistance = 1
	lengthSteps   = 4
	distanceSteps = 2
)

// reader reads the blocks of in. The result so far is out, the window into which matches reach back.
type reader struct {
	in    *bits.Reader
	out   []byte
	most  int
	known *codes // the fixed ones, once a block has needed them: there may be a block for every ten bits
}

// kinds tells how a block is read, by its type.
func kinds() [types]func(*reader) api.Errno {
	return [...]func(*reader) api.Errno{(*reader).stored, (*reader).fixed, (*reader).dynamic}
}

// blocks reads blocks up to the one that calls itself the last.
func (r *reader) blocks() api.Errno {
	read := kinds()
	for last := false; !last; {
		head, e := r.take(3)
		if e != api.OK {
			return e
		}
		last = head&1 == 1
		kind := head >> 1
		if kind >= len(read) {
			return api.ErrForm
		}
		if e := read[kind](r); e != api.OK {
			return e
		}
	}
	return api.OK
}

// stored reads a block of bytes as they are.
func (r *reader) stored() api.Errno {
	r.in.Align()
	size, e := r.take(16)
	if e != api.OK {
		return e
	}
	complement, e := r.take(16)
	if e != api.OK {
		return e
	}
	if size^complement != 0xffff {
		return api.ErrForm
	}
	for range size {
		x, e := r.take(8)
		if e != api.OK {
			return e
		}
		if e := r.put(byte(x)); e != api.OK {
			return e
		}
	}
	return api.OK
}

// fixed reads a block with the codes that are always the same.
func (r *reader) fixed() api.Errno {
	if r.known == nil {
		c, e := codesOf(fixedLengths())
		if e != api.OK {
			return e
		}
		r.known = c
	}
	return r.coded(r.known)
}

// dynamic reads a block that begins with its codes.
func (r *reader) dynamic() api.Errno {
	c, e := r.codes()
	if e != api.OK {
		return e
	}
	return r.coded(c)
}

// coded reads runs of literals, each of them followed by a match, and in the last one the end of the block.
func (r *reader) coded(c *codes) api.Errno {
runs:
	for {
		symbol, e := c.literals.Read(r.in)
		for ; e == api.OK && symbol <= end; symbol, e = c.literals.Read(r.in) {
			if symbol == end {
				break runs
			}
			if e := r.put(byte(symbol)); e != api.OK {
				return e
			}
		}
		if e != api.OK {
			return e
		}
		if e := r.match(symbol, c.distances); e != api.OK {
			return e
		}
	}
	return api.OK
}

// match reads the rest of a match, and repeats what it names.
func (r *reader) match(symbol int, distances *huff.Code) api.Errno {
	length, e := r.length(symbol)
	if e != api.OK {
		return e
	}
	distance, e := r.distance(distances)
	if e != api.OK {
		return e
	}
	if distance > len(r.out) {
		return api.ErrForm
	}
	if len(r.out)+length > r.most {
		return api.ErrBig
	}
	for range length { // one by one, since a match may reach into itself
		r.out = append(r.out, r.out[len(r.out)-distance])
	}
	return api.OK
}

func (r *reader) length(symbol int) (int, api.Errno) {
	if symbol > lastLength {
		return 0, api.ErrForm
	}
	if symbol == lastLength {
		return mostLength, api.OK
	}
	first, extra := span(symbol-end-1, lengthSteps)
	return r.count(extra, leastLength+first)
}

func (r *reader) distance(code *huff.Code) (int, api.Errno) {
	symbol, e := code.Read(r.in)
	if e != api.OK {
		return 0, e
	}
	if symbol > lastDistance {
		return 0, api.ErrForm
	}
	first, extra := span(symbol, distanceSteps)
	return r.count(extra, leastDistance+first)
}

// span tells the first of the numbers that share symbol n, and how many bits tell which of them is meant. Twice steps symbols stand for a number each; after that, each steps symbols stand for twice as many numbers as the ones before.
func span(n, steps int) (first, extra int) {
	if n < 2*steps {
		return n, 0
	}
	extra = n/steps - 1
	return (steps + n%steps) << extra, extra
}

// put adds a byte to the result, unless this has all that it may have.
func (r *reader) put(x byte) api.Errno {
	if len(r.out) >= r.most {
		return api.ErrBig
	}
	r.out = append(r.out, x)
	return api.OK
}

// count tells a number that is written in n bits as what it is above least.
func (r *reader) count(n, least int) (int, api.Errno) {
	v, e := r.take(n)
	if e != api.OK {
		return 0, e
	}
	return least + v, api.OK
}

// take tells the next n bits as a number.
func (r *reader) take(n int) (int, api.Errno) {
	v, ok := r.in.Take(n)
	if !ok {
		return 0, api.ErrTorn
	}
	return int(v), api.OK
}
