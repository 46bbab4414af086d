package idx

import (
	"bytes"
	"slices"

	"stemma/api"
	"stemma/sum"
)

// index is the columns of an index, as they stand there.
type index struct {
	counts  []byte // of the IDs that begin with a byte of at most 0, 1, ..
	ids     []byte
	crcs    []byte
	offsets []byte // where isFar is set, the place of one of fars
	fars    []byte
	pack    []byte
}

// columns tells the index of objects that are ascending by their IDs.
func columns(l []api.Object, pack string) index {
	var x index
	for _, o := range l {
		hash, _ := sum.Unhex(o.ID)
		x.ids = append(x.ids, hash...)
		x.crcs = add(x.crcs, uint64(o.CRC), wordSize)
		x.addOffset(uint64(o.At))
	}
	n := 0
	for first := range firsts {
		for n < x.count() && int(x.id(n)[0]) == first {
			n++
		}
		x.counts = add(x.counts, uint64(n), wordSize)
	}
	x.pack, _ = sum.Unhex(pack)
	return x
}

func (x *index) addOffset(at uint64) {
	if at < isFar {
		x.offsets = add(x.offsets, at, wordSize)
		return
	}
	x.offsets = add(x.offsets, isFar|uint64(len(x.fars)/farSize), wordSize)
	x.fars = add(x.fars, at, farSize)
}

// bytes tells the whole index.
func (x index) bytes() []byte {
	b := slices.Concat([]byte(signature), x.counts, x.ids, x.crcs, x.offsets, x.fars, x.pack)
	return append(b, sum.SHA1(b)...)
}

// open tells the columns of b, which it shares.
func open(b []byte) (index, api.Errno) {
	if len(b) < leastSize {
		return index{}, api.ErrTorn
	}
	body, digest := split(b, len(b)-hashSize)
	x, ok := cut(body)
	if !ok || !x.idsFit() || !x.offsetsFit() {
		return index{}, api.ErrForm
	}
	if !bytes.Equal(digest, sum.SHA1(body)) {
		return index{}, api.ErrSum
	}
	return x, api.OK
}

// cut finds the columns. How many of fars there must be, offsetsFit finds out.
func cut(b []byte) (index, bool) {
	var x index
	head, b := split(b, len(signature))
	x.counts, b = split(b, firsts*wordSize)
	n, ok := total(x.counts)
	if !ok || string(head) != signature || len(b) < n*rowSize+hashSize {
		return index{}, false
	}
	x.ids, b = split(b, n*hashSize)
	x.crcs, b = split(b, n*wordSize)
	x.offsets, b = split(b, n*wordSize)
	x.fars, x.pack = split(b, len(b)-hashSize)
	return x, true
}

// split leaves the first part no room, so that no column can be read beyond its end.
func split(b []byte, n int) ([]byte, []byte) {
	return b[:n:n], b[n:]
}

// total tells the last one of the counts; false if they fall, or if it is too great.
func total(counts []byte) (int, bool) {
	last := uint64(0)
	for first := range firsts {
		n := number(counts, first, wordSize)
		if n < last || n > api.MaxObjects {
			return 0, false
		}
		last = n
	}
	return int(last), true
}

// idsFit tells whether the IDs are ascending, and are where the counts tell them to be.
func (x index) idsFit() bool {
	for i := range x.count() {
		low, high := x.between(x.id(i)[0])
		if i < low || i >= high || i > 0 && bytes.Compare(x.id(i-1), x.id(i)) >= 0 {
			return false
		}
	}
	return true
}

// offsetsFit tells whether the offsets use fars one by one, and only where a word won't do.
func (x index) offsetsFit() bool {
	used := 0
	for i := range x.count() {
		word := number(x.offsets, i, wordSize)
		if word < isFar {
			continue
		}
		if word != isFar|uint64(used) || used >= len(x.fars)/farSize {
			return false
		}
		if at := number(x.fars, used, farSize); at < isFar || at > mostAt {
			return false
		}
		used++
	}
	return len(x.fars) == used*farSize
}

func (x index) count() int {
	return len(x.ids) / hashSize
}

func (x index) id(i int) []byte {
	return x.ids[i*hashSize : (i+1)*hashSize]
}

func (x index) crc(i int) uint32 {
	return uint32(number(x.crcs, i, wordSize))
}

func (x index) at(i int) int {
	at := number(x.offsets, i, wordSize)
	if at >= isFar {
		at = number(x.fars, int(at-isFar), farSize)
	}
	return int(at)
}

// between tells where the IDs that begin with this byte begin and end.
func (x index) between(first byte) (int, int) {
	low := uint64(0)
	if first > 0 {
		low = number(x.counts, int(first)-1, wordSize)
	}
	return int(low), int(number(x.counts, int(first), wordSize))
}

// add appends a number of size bytes, the most significant one first.
func add(b []byte, n uint64, size int) []byte {
	for i := size - 1; i >= 0; i-- {
		b = append(b, byte(n>>(8*i)))
	}
	return b
}

// number tells the one at i of numbers of size bytes each.
func number(b []byte, i, size int) uint64 {
	n := uint64(0)
	for _, x := range b[i*size : (i+1)*size] {
		n = n<<8 | uint64(x)
	}
	return n
}
