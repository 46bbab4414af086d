package bits_test

import (
	"bytes"
	"math/rand"
	"testing"

	"stemma/bits"
)

// plain is a text as a list of its bits, each 0 or 1.
type plain []byte

func bitsOf(b []byte) plain {
	var p plain
	for _, x := range b {
		for i := range 8 {
			p = append(p, x>>i&1)
		}
	}
	return p
}

func (p plain) text() []byte {
	b := make([]byte, (len(p)+7)/8)
	for i, bit := range p {
		b[i/8] |= bit << (i % 8)
	}
	return b
}

// number has p's first bit as its least significant one.
func (p plain) number() uint32 {
	var v uint32
	for i, bit := range p {
		v |= uint32(bit) << i
	}
	return v
}

// reader is the model of a Reader: what waits to be taken, and how many bits have been.
type reader struct {
	rest  plain
	taken int
}

func (m *reader) skip(n int) plain {
	p := m.rest[:n]
	m.rest = m.rest[n:]
	m.taken += n
	return p
}

func (m *reader) take(n int) (uint32, bool) {
	if n < 0 || n > 32 || n > len(m.rest) {
		return 0, false
	}
	return m.skip(n).number(), true
}

func (m *reader) align() {
	m.skip((8 - m.taken%8) % 8)
}

func (m *reader) bytes(n int) ([]byte, bool) {
	m.align()
	if n < 0 || n > len(m.rest)/8 {
		return nil, false
	}
	return m.skip(8 * n).text(), true
}

func (m *reader) used() int {
	return (m.taken + 7) / 8
}

// writer is the model of a Writer.
type writer struct{ all plain }

func clamp(n int) int {
	return min(max(n, 0), 32)
}

func (m *writer) put(v uint32, n int) {
	for i := range clamp(n) {
		m.all = append(m.all, byte(v>>i&1))
	}
}

func (m *writer) code(v uint32, n int) {
	for i := clamp(n) - 1; i >= 0; i-- {
		m.all = append(m.all, byte(v>>i&1))
	}
}

func (m *writer) align() {
	for len(m.all)%8 != 0 {
		m.all = append(m.all, 0)
	}
}

func (m *writer) raw(b []byte) {
	m.align()
	m.all = append(m.all, bitsOf(b)...)
}

func random(r *rand.Rand, n int) []byte {
	b := make([]byte, n)
	r.Read(b)
	return b
}

// Every Reader does what its model does, whatever it is asked.
func TestReaderAsTheModel(t *testing.T) {
	r := rand.New(rand.NewSource(1))
	for range 3000 {
		text := random(r, r.Intn(60))
		real, model := bits.Read(text), &reader{rest: bitsOf(text)}
		for range 40 {
			switch r.Intn(8) {
			case 0:
				real.Align()
				model.align()
			case 1, 2:
				sameBytes(t, real, model, r.Intn(9)-1)
			default:
				sameTake(t, real, model, r.Intn(36)-2)
			}
			if real.Used() != model.used() {
				t.Fatal(real.Used(), model.used())
			}
		}
	}
}

func sameTake(t *testing.T, real *bits.Reader, model *reader, n int) {
	t.Helper()
	v, ok := real.Take(n)
	if w, isThere := model.take(n); v != w || ok != isThere {
		t.Fatalf("Take(%d): %x %v, not %x %v", n, v, ok, w, isThere)
	}
}

func sameBytes(t *testing.T, real *bits.Reader, model *reader, n int) {
	t.Helper()
	b, ok := real.Bytes(n)
	if c, isThere := model.bytes(n); !bytes.Equal(b, c) || ok != isThere {
		t.Fatalf("Bytes(%d): %x %v, not %x %v", n, b, ok, c, isThere)
	}
}

// Every Writer does what its model does, whatever it is told.
func TestWriterAsTheModel(t *testing.T) {
	r := rand.New(rand.NewSource(2))
	for range 3000 {
		var real bits.Writer
		var model writer
		for range r.Intn(40) {
			v, n := r.Uint32(), r.Intn(38)-2
			switch r.Intn(8) {
			case 0:
				real.Align()
				model.align()
			case 1:
				b := random(r, r.Intn(6))
				real.Raw(b)
				model.raw(b)
			case 2, 3, 4:
				real.Code(v, n)
				model.code(v, n)
			default:
				real.Put(v, n)
				model.put(v, n)
			}
			if r.Intn(3) == 0 && !bytes.Equal(real.Bytes(), model.all.text()) {
				t.Fatalf("%x, not %x", real.Bytes(), model.all.text())
			}
		}
		if !bytes.Equal(real.Bytes(), model.all.text()) {
			t.Fatalf("%x, not %x", real.Bytes(), model.all.text())
		}
	}
}
