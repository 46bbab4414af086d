package deflate_test

import (
	"bytes"
	"compress/flate"
	"compress/zlib"
	"fmt"
	"io"
	"math/rand"
	"testing"

	"stemma/api"
	"stemma/bits"
	"stemma/huff"
	"stemma/symbols"
)

// Types of blocks.
const (
	isStored = iota
	isFixed
	isDynamic
)

// found is a block as it is read back.
type found struct {
	kind, size int // in bytes of the text
	last       bool
}

// lister reads the blocks of a stream, each of which must be right.
type lister struct {
	t    *testing.T
	in   *bits.Reader
	text []byte
}

// blocksOf lists the blocks of a stream, up to a last one, with which all its bytes must be used.
func blocksOf(t *testing.T, stream []byte) (l []found, text []byte) {
	t.Helper()
	r := &lister{t, bits.Read(stream), nil}
	for len(l) == 0 || !l[len(l)-1].last {
		before := len(r.text)
		last, kind := r.take(1) == 1, r.take(2)
		switch kind {
		case isStored:
			r.stored()
		case isFixed:
			r.coded(symbols.FixedLengths())
		case isDynamic:
			r.coded(r.lengths())
		default:
			t.Fatal("type", kind)
		}
		l = append(l, found{kind, len(r.text) - before, last})
	}
	if r.in.Used() != len(stream) {
		t.Fatal(r.in.Used(), "bytes used of", len(stream))
	}
	return l, r.text
}

func (r *lister) take(n int) int {
	r.t.Helper()
	v, ok := r.in.Take(n)
	if !ok {
		r.t.Fatal("the bits end")
	}
	return int(v)
}

func (r *lister) read(c *huff.Code) int {
	r.t.Helper()
	symbol, e := c.Read(r.in)
	if e != api.OK {
		r.t.Fatal("no symbol: error", e)
	}
	return symbol
}

func (r *lister) code(lengths []int) *huff.Code {
	r.t.Helper()
	c, e := huff.New(lengths)
	if e != api.OK {
		r.t.Fatal(lengths, e)
	}
	return c
}

func (r *lister) stored() {
	r.t.Helper()
	r.in.Align()
	size, complement := r.take(16), r.take(16)
	b, ok := r.in.Bytes(size)
	if size^complement != 0xffff || !ok {
		r.t.Fatal("stored", size, complement)
	}
	r.text = append(r.text, b...)
}

func (r *lister) lengths() (literals, distances []int) {
	r.t.Helper()
	n, m, ordered := r.take(5)+257, r.take(5)+1, make([]int, 19)
	for i := range r.take(4) + 4 {
		ordered[symbols.Ordered(i)] = r.take(3)
	}
	c := r.code(ordered)
	var l []int
	for len(l) < n+m {
		symbol, length := r.read(c), 0
		if symbol < symbols.Again {
			length = symbol
		} else if symbol == symbols.Again {
			length = l[len(l)-1]
		}
		least, extra := symbols.Run(symbol)
		for range least + r.take(extra) {
			l = append(l, length)
		}
	}
	if n > 286 || m > 30 || len(l) > n+m || !huff.Complete(l[:n]) {
		r.t.Fatal(n, m, l)
	}
	return l[:n], l[n:]
}

func (r *lister) coded(literals, distances []int) {
	r.t.Helper()
	l, d := r.code(literals), r.code(distances)
	for symbol := r.read(l); symbol != symbols.End; symbol = r.read(l) {
		if symbol < symbols.End {
			r.text = append(r.text, byte(symbol))
			continue
		}
		least, extra := symbols.Length(symbol)
		length := least + r.take(extra)
		least, extra = symbols.Distance(r.read(d))
		from := len(r.text) - least - r.take(extra)
		for i := range length {
			r.text = append(r.text, r.text[from+i])
		}
	}
}

// unpacked is what Go's own library reads from a stream of RFC 1951, of which nothing may be left.
func unpacked(t *testing.T, stream []byte) []byte {
	t.Helper()
	r := bytes.NewReader(stream)
	b, err := io.ReadAll(flate.NewReader(r))
	if err != nil || r.Len() > 0 {
		t.Fatal(err, r.Len(), "bytes left")
	}
	return b
}

// unzipped is the same for RFC 1950.
func unzipped(t *testing.T, stream []byte) []byte {
	t.Helper()
	r := bytes.NewReader(stream)
	z, err := zlib.NewReader(r)
	if err != nil {
		t.Fatal(err)
	}
	b, err := io.ReadAll(z)
	if err != nil || r.Len() > 0 {
		t.Fatal(err, r.Len(), "bytes left")
	}
	return b
}

// packed is what Go's own library makes of a text.
func packed(t *testing.T, text []byte) []byte {
	t.Helper()
	var b bytes.Buffer
	w, err := flate.NewWriter(&b, flate.BestCompression)
	if err != nil {
		t.Fatal(err)
	}
	w.Write(text)
	w.Close()
	return b.Bytes()
}

func noise(rnd *rand.Rand, n int) []byte {
	b := make([]byte, n)
	rnd.Read(b)
	return b
}

// few has only some of the bytes.
func few(rnd *rand.Rand, n, kinds int) []byte {
	b := make([]byte, n)
	for i := range b {
		b[i] = byte(rnd.Intn(kinds))
	}
	return b
}

func words(rnd *rand.Rand, n int) []byte {
	var b []byte
	for len(b) < n {
		b = fmt.Append(b, "word", rnd.Intn(16), " ", rnd.Intn(7), "\n")
	}
	return b[:n]
}

// repeats has pieces of itself again, of many lengths and from many distances.
func repeats(rnd *rand.Rand, n int) []byte {
	b := noise(rnd, 1+rnd.Intn(300))
	for len(b) < n {
		if rnd.Intn(3) == 0 {
			b = append(b, noise(rnd, 1+rnd.Intn(1<<rnd.Intn(9)))...)
		}
		b = again(b, 1+rnd.Intn(min(len(b), 1<<rnd.Intn(17))), 1+rnd.Intn(1<<rnd.Intn(10)))
	}
	return b[:n]
}

// again appends length bytes, each the same as the one distance bytes before.
func again(b []byte, distance, length int) []byte {
	for range length {
		b = append(b, b[len(b)-distance])
	}
	return b
}

// steep has some bytes far more often than others, so that codes that cost least would be longer than they may be.
func steep(rnd *rand.Rand) []byte {
	var b []byte
	for x := range 20 + rnd.Intn(236) {
		b = append(b, bytes.Repeat([]byte{byte(x)}, 1<<min(11, int(2*rnd.ExpFloat64())))...)
	}
	rnd.Shuffle(len(b), func(i, j int) { b[i], b[j] = b[j], b[i] })
	return b
}

// growing has bytes as often as Fibonacci's numbers, which would take the longest code beyond 15 bits.
func growing(rnd *rand.Rand) []byte {
	var b []byte
	for x, n, next := 0, 1, 1; x < 22; x, n, next = x+1, next, n+next {
		b = append(b, bytes.Repeat([]byte{byte(x)}, n)...)
	}
	rnd.Shuffle(len(b), func(i, j int) { b[i], b[j] = b[j], b[i] })
	return b
}

// likeFixed has bytes and repeats as often as the fixed codes are best for.
func likeFixed(rnd *rand.Rand, n int) []byte {
	b := noise(rnd, 300)
	for len(b) < n {
		symbol := fixedSymbol(rnd)
		if symbol < symbols.End {
			b = append(b, byte(symbol))
		} else if symbol > symbols.End && symbol <= symbols.LastLength {
			least, extra := symbols.Length(symbol)
			length := least + rnd.Intn(1<<extra)
			least, extra = symbols.Distance(rnd.Intn(30))
			b = again(b, min(len(b), least+rnd.Intn(1<<extra)), length)
		}
	}
	return b[:n]
}

// fixedSymbol is a symbol of which each is as likely as its fixed code is short.
func fixedSymbol(rnd *rand.Rand) int {
	literals, _ := symbols.FixedLengths()
	at := rnd.Intn(1 << 9)
	for symbol, length := range literals {
		if at -= 1 << (9 - length); at < 0 {
			return symbol
		}
	}
	return 0
}
