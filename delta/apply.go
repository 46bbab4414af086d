package delta

import "stemma/api"

// result is a text in the making: the instructions before rest are executed.
type result struct {
	base []byte
	rest []byte
	out  []byte
	size int // that out must have in the end
}

// Apply tells the text that d describes by pieces of base.
func Apply(base, d []byte, most int) ([]byte, api.Errno) {
	from, to, instructions, e := sizes(d)
	if e != api.OK {
		return nil, e
	}
	if from != len(base) {
		return nil, api.ErrForm
	}
	if to > max(most, 0) {
		return nil, api.ErrBig
	}
	r := &result{base: base, rest: instructions, size: to}
	if e := r.execute(); e != api.OK {
		return nil, e
	}
	return r.out, api.OK
}

func (r *result) execute() api.Errno {
	for len(r.rest) > 0 {
		if e := r.step(); e != api.OK {
			return e
		}
	}
	if r.room() > 0 {
		return api.ErrForm
	}
	return api.OK
}

// step executes one instruction.
func (r *result) step() api.Errno {
	first := r.take(1)[0]
	if first == 0 {
		return api.ErrForm
	}
	if first >= isCopy {
		return r.copy(first)
	}
	return r.insert(int(first))
}

func (r *result) copy(first byte) api.Errno {
	v, ok := r.fields(first)
	if !ok {
		return api.ErrTorn
	}
	at, n := v%(1<<offsetSize), v>>offsetSize
	if n == 0 {
		n = noLength
	}
	if at+n > uint64(len(r.base)) || n > uint64(r.room()) {
		return api.ErrForm
	}
	r.out = append(r.out, r.base[at:at+n]...)
	return api.OK
}

// fields reads those bytes of a number, the least significant one first, that the bits of which name; the others are 0.
func (r *result) fields(which byte) (uint64, bool) {
	v := uint64(0)
	for i := range fieldBytes {
		if which>>i&1 == 0 {
			continue
		}
		if len(r.rest) == 0 {
			return 0, false
		}
		v |= uint64(r.take(1)[0]) << (8 * i)
	}
	return v, true
}

func (r *result) insert(n int) api.Errno {
	if n > r.room() {
		return api.ErrForm
	}
	if n > len(r.rest) {
		return api.ErrTorn
	}
	r.out = append(r.out, r.take(n)...)
	return api.OK
}

// take goes on by n bytes, of which there are so many.
func (r *result) take(n int) []byte {
	b := r.rest[:n]
	r.rest = r.rest[n:]
	return b
}

// room tells how many bytes the text still lacks.
func (r *result) room() int {
	return r.size - len(r.out)
}
