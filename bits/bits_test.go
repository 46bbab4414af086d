package bits_test

import (
	"bytes"
	"math"
	"math/rand"
	"testing"

	"stemma/bits"
)

// outside lists numbers that are no number of bits or bytes.
var outside = []int{-1, -2, -7, -8, -9, -32, -33, -1 << 31, -1 << 32, math.MinInt, math.MinInt + 7}

// tooMany lists numbers of bits that no call takes; some of them are 0 to 32 in their lower half.
var tooMany = []int{33, 34, 40, 63, 64, 65, 256, 1 << 31, 1 << 32, 1<<32 + 1, math.MaxInt, math.MaxInt - 7}

func takes(t *testing.T, r *bits.Reader, n int, want uint32) {
	t.Helper()
	if v, ok := r.Take(n); v != want || !ok {
		t.Fatalf("Take(%d): %x %v, not %x", n, v, ok, want)
	}
}

func takesNot(t *testing.T, r *bits.Reader, n int) {
	t.Helper()
	used := r.Used()
	if v, ok := r.Take(n); v != 0 || ok {
		t.Fatalf("Take(%d): %x %v", n, v, ok)
	}
	if r.Used() != used {
		t.Fatalf("Take(%d) has begun bytes", n)
	}
}

func reads(t *testing.T, r *bits.Reader, n int, want string) {
	t.Helper()
	if b, ok := r.Bytes(n); string(b) != want || !ok {
		t.Fatalf("Bytes(%d): %x %v, not %x", n, b, ok, want)
	}
}

func readsNot(t *testing.T, r *bits.Reader, n int) {
	t.Helper()
	if b, ok := r.Bytes(n); b != nil || ok {
		t.Fatalf("Bytes(%d): %x %v", n, b, ok)
	}
}

func used(t *testing.T, r *bits.Reader, want int) {
	t.Helper()
	if r.Used() != want {
		t.Fatalf("used %d, not %d", r.Used(), want)
	}
}

func has(t *testing.T, w *bits.Writer, want string) {
	t.Helper()
	if b := w.Bytes(); string(b) != want {
		t.Fatalf("%x, not %x", b, want)
	}
}

// readFrom tells a Reader of text of which at bits have been taken.
func readFrom(t *testing.T, text []byte, at int) *bits.Reader {
	t.Helper()
	r := bits.Read(text)
	for range at {
		if _, ok := r.Take(1); !ok {
			t.Fatal("fewer bits than", at)
		}
	}
	return r
}

// writeFrom tells a Writer that has the first at bits of p.
func writeFrom(p plain, at int) *bits.Writer {
	w := new(bits.Writer)
	for _, bit := range p[:at] {
		w.Put(uint32(bit), 1)
	}
	return w
}

// 4.1

func TestExamples(t *testing.T) {
	var w bits.Writer
	w.Put(1, 1)
	w.Put(2, 2)
	has(t, &w, "\x05")
	r := bits.Read([]byte{5})
	takes(t, r, 3, 5)
	takesNot(t, r, 6)
	used(t, r, 1)
	var c bits.Writer
	c.Code(1, 3)
	has(t, &c, "\x04")
}

func TestTakeOfKnownBytes(t *testing.T) {
	r := bits.Read([]byte{0xb4, 0x01, 0x80, 0x78, 0x56, 0x34, 0x12, 0xff})
	takes(t, r, 2, 0)
	takes(t, r, 1, 1)
	takes(t, r, 3, 6)
	takes(t, r, 3, 6) // two bits of the first byte, and above them one of the second
	takes(t, r, 15, 0x4000)
	takes(t, r, 32, 0x12345678)
	takes(t, r, 8, 0xff)
	takesNot(t, r, 1)
}

// Every number of bits is taken from every place, up to the end and beyond it.
func TestTakeAnywhere(t *testing.T) {
	text := random(rand.New(rand.NewSource(3)), 9)
	p := bitsOf(text)
	for size := range len(text) + 1 {
		for at := range 8*size + 1 {
			for n := range 33 {
				r := readFrom(t, text[:size], at)
				if at+n > 8*size {
					takesNot(t, r, n)
					continue
				}
				takes(t, r, n, p[at:at+n].number())
				used(t, r, (at+n+7)/8)
				for _, bit := range p[at+n : 8*size] {
					takes(t, r, 1, uint32(bit))
				}
				takesNot(t, r, 1)
			}
		}
	}
}

// What a Take refuses is there for the next one.
func TestTakeOfTooMuchTakesNothing(t *testing.T) {
	text := random(rand.New(rand.NewSource(4)), 5)
	p := bitsOf(text)
	for at := range len(p) + 1 {
		r := readFrom(t, text, at)
		for _, n := range append(append([]int{}, outside...), tooMany...) {
			takesNot(t, r, n)
		}
		rest := len(p) - at
		for n := rest + 1; n <= 32; n++ {
			takesNot(t, r, n)
		}
		if rest <= 32 {
			takes(t, r, rest, p[at:].number())
			takesNot(t, r, 1)
			takes(t, r, 0, 0)
			used(t, r, 5)
		} else {
			takes(t, r, 32, p[at:at+32].number())
		}
	}
}

func TestReaderOfNothing(t *testing.T) {
	for _, text := range [][]byte{nil, {}} {
		r := bits.Read(text)
		used(t, r, 0)
		takes(t, r, 0, 0)
		for n := 1; n <= 32; n++ {
			takesNot(t, r, n)
		}
		r.Align()
		reads(t, r, 0, "")
		readsNot(t, r, 1)
		used(t, r, 0)
	}
}

func TestUsedCountsBegunBytes(t *testing.T) {
	r := bits.Read(make([]byte, 4))
	used(t, r, 0)
	takes(t, r, 0, 0)
	used(t, r, 0)
	for taken := 1; taken <= 32; taken++ {
		takes(t, r, 1, 0)
		used(t, r, (taken+7)/8)
		takes(t, r, 0, 0)
		used(t, r, (taken+7)/8)
	}
}

func TestReaderAligns(t *testing.T) {
	text := random(rand.New(rand.NewSource(5)), 6)
	for at := range 8*len(text) + 1 {
		r := readFrom(t, text, at)
		for range 2 { // it is at the end of a byte then, and skips nothing more
			r.Align()
			used(t, r, (at+7)/8)
		}
		for _, x := range text[(at+7)/8:] {
			takes(t, r, 8, uint32(x))
		}
		takesNot(t, r, 1)
	}
}

// What Align skips does not come up again in the bits above those taken next.
func TestNothingIsLeftOfSkippedBits(t *testing.T) {
	for at := 1; at < 8; at++ {
		r := readFrom(t, []byte{0xff, 0, 0, 0, 0}, at)
		r.Align()
		takes(t, r, 32, 0)
		r = readFrom(t, []byte{0xff, 0, 0}, at)
		reads(t, r, 1, "\x00")
		takes(t, r, 8, 0)
	}
}

func TestBytesAnywhere(t *testing.T) {
	text := random(rand.New(rand.NewSource(6)), 6)
	for at := range 8*len(text) + 1 {
		from := (at + 7) / 8
		for n := range len(text) - from + 1 {
			r := readFrom(t, text, at)
			reads(t, r, n, string(text[from:from+n]))
			used(t, r, from+n)
			for _, x := range text[from+n:] {
				takes(t, r, 8, uint32(x))
			}
			takesNot(t, r, 1)
		}
	}
}

// Bytes that aren't there leave the Reader behind Align.
func TestBytesBeyondTheEndAlign(t *testing.T) {
	text := random(rand.New(rand.NewSource(7)), 4)
	for at := range 8*len(text) + 1 {
		from := (at + 7) / 8
		for _, n := range append([]int{len(text) - from + 1, 5, 8, 1 << 31, 1 << 61, math.MaxInt}, outside...) {
			r := readFrom(t, text, at)
			readsNot(t, r, n)
			used(t, r, from)
			readsNot(t, r, n)
			reads(t, r, len(text)-from, string(text[from:]))
			used(t, r, len(text))
		}
	}
}

// 4.2

func TestZeroWriterIsEmpty(t *testing.T) {
	var w bits.Writer
	has(t, &w, "")
	w.Align()
	w.Raw(nil)
	w.Put(0xffffffff, 0)
	w.Code(0xffffffff, 0)
	has(t, &w, "")
	w.Put(1, 1)
	has(t, &w, "\x01")
}

func TestPutOfKnownBits(t *testing.T) {
	var w bits.Writer
	w.Put(0xfffffff4, 3)
	has(t, &w, "\x04")
	w.Put(0b10110, 5)
	has(t, &w, "\xb4")
	w.Put(0x12345678, 32)
	has(t, &w, "\xb4\x78\x56\x34\x12")
	w.Put(0, 1)
	has(t, &w, "\xb4\x78\x56\x34\x12\x00")
	w.Put(0xffffffff, 32)
	has(t, &w, "\xb4\x78\x56\x34\x12\xfe\xff\xff\xff\x01")
}

func TestCodeOfKnownBits(t *testing.T) {
	var w bits.Writer
	w.Code(0xfffffff4, 3)
	has(t, &w, "\x01")
	w.Code(0b10110, 5)
	has(t, &w, "\x69")
	w.Code(0x1, 32)
	has(t, &w, "\x69\x00\x00\x00\x80")
	w.Code(0x80000001, 31)
	has(t, &w, "\x69\x00\x00\x00\x80\x00\x00\x00\x40")
	w.Code(1, 1)
	has(t, &w, "\x69\x00\x00\x00\x80\x00\x00\x00\xc0")
}

// Every number of bits is written at every place, with every bit of the number alone, and with the others.
func TestWriteAnywhere(t *testing.T) {
	before := bitsOf([]byte{0x5a, 0xc3})
	for at := range len(before) + 1 {
		for n := range 33 {
			for i := range 32 {
				for _, v := range []uint32{1 << i, ^(uint32(1) << i), 0x9e3779b9 << i} {
					model := &writer{append(plain(nil), before[:at]...)}
					put, code := writeFrom(before, at), writeFrom(before, at)
					put.Put(v, n)
					model.put(v, n)
					has(t, put, string(model.all.text()))
					model.all = model.all[:at]
					code.Code(v, n)
					model.code(v, n)
					has(t, code, string(model.all.text()))
				}
			}
		}
	}
}

func TestWrittenLengthsAreClamped(t *testing.T) {
	begun := bitsOf([]byte{0xff})
	for at := range 8 {
		for _, n := range outside {
			w := writeFrom(begun, at)
			w.Put(0xffffffff, n)
			w.Code(0xffffffff, n)
			has(t, w, string(begun[:at].text()))
			w.Put(1, 1)
			has(t, w, string(begun[:at+1].text()))
		}
		for _, n := range tooMany {
			for _, v := range []uint32{0, 1, 1 << 31, 0x12345678, 0xffffffff} {
				w, all := writeFrom(begun, at), writeFrom(begun, at)
				w.Put(v, n)
				w.Code(v, n)
				w.Put(1, 1)
				all.Put(v, 32)
				all.Code(v, 32)
				all.Put(1, 1)
				has(t, w, string(all.Bytes()))
			}
		}
	}
}

func TestWriterAligns(t *testing.T) {
	ones := bitsOf([]byte{0xff, 0xff})
	for at := range len(ones) + 1 {
		w := writeFrom(ones, at)
		for range 2 { // the second one has nothing to fill
			w.Align()
			has(t, w, string(ones[:at].text()))
		}
		w.Put(1, 2)
		has(t, w, string(ones[:at].text())+"\x01")
	}
}

func TestRawAligns(t *testing.T) {
	ones := bitsOf([]byte{0xff, 0xff})
	for at := range len(ones) + 1 {
		for _, raw := range []string{"", "x", "\x00", "\xffab\x80"} {
			w := writeFrom(ones, at)
			w.Raw([]byte(raw))
			has(t, w, string(ones[:at].text())+raw)
			w.Code(1, 2)
			has(t, w, string(ones[:at].text())+raw+"\x02")
		}
	}
}

// Bytes shows the bits of a begun byte, and writing goes on after them, not after the zeros.
func TestWritingMayContinue(t *testing.T) {
	text := random(rand.New(rand.NewSource(8)), 20)
	p := bitsOf(text)
	var w bits.Writer
	for i, bit := range p {
		has(t, &w, string(p[:i].text()))
		has(t, &w, string(p[:i].text()))
		w.Put(uint32(bit), 1)
	}
	has(t, &w, string(text))
}

// 4.3

// What comes back is the same in portions of any size, whatever the sizes were that it was written in.
func TestOtherPortions(t *testing.T) {
	r := rand.New(rand.NewSource(9))
	for range 2000 {
		text := random(r, r.Intn(50))
		p := bitsOf(text)
		var w bits.Writer
		for rest := p; len(rest) > 0; {
			n := min(r.Intn(33), len(rest))
			w.Put(rest[:n].number()|r.Uint32()<<n, n)
			rest = rest[n:]
		}
		back := bits.Read(w.Bytes())
		for rest := p; len(rest) > 0; {
			n := min(r.Intn(33), len(rest))
			takes(t, back, n, rest[:n].number())
			rest = rest[n:]
		}
		takesNot(t, back, 1)
		used(t, back, len(text))
	}
}

// part is something written, and how it is read.
type part struct {
	kind, n int
	v       uint32
	raw     []byte
}

func TestSamePortions(t *testing.T) {
	r := rand.New(rand.NewSource(10))
	for range 2000 {
		var parts []part
		var w bits.Writer
		for range r.Intn(40) {
			p := part{kind: r.Intn(4), n: r.Intn(33), raw: random(r, r.Intn(5))}
			p.v = uint32(r.Int63() & (1<<p.n - 1))
			parts = append(parts, p)
			switch p.kind {
			case 0:
				w.Put(p.v, p.n)
			case 1:
				w.Code(p.v, p.n)
			case 2:
				w.Raw(p.raw)
			default:
				w.Align()
			}
		}
		readParts(t, bits.Read(w.Bytes()), parts)
	}
}

func readParts(t *testing.T, r *bits.Reader, parts []part) {
	t.Helper()
	for _, p := range parts {
		switch p.kind {
		case 0:
			takes(t, r, p.n, p.v)
		case 1:
			for i := p.n - 1; i >= 0; i-- {
				takes(t, r, 1, p.v>>i&1)
			}
		case 2:
			reads(t, r, len(p.raw), string(p.raw))
		default:
			r.Align()
		}
	}
	r.Align()
	readsNot(t, r, 1)
}

// 4.4

func spoil(b []byte) {
	b = b[:cap(b)]
	for i := range b {
		b[i] ^= 0xa5
	}
}

func TestReaderKeepsNoArgument(t *testing.T) {
	text := random(rand.New(rand.NewSource(11)), 30)
	buffer := append(make([]byte, 0, 50), text...)
	r := bits.Read(buffer)
	takes(t, r, 4, uint32(text[0]&15))
	spoil(buffer)
	takes(t, r, 4, uint32(text[0]>>4))
	reads(t, r, 9, string(text[1:10]))
	takes(t, r, 8, uint32(text[10]))
	reads(t, r, 19, string(text[11:]))
}

func TestArgumentsStayAsTheyWere(t *testing.T) {
	buffer := random(rand.New(rand.NewSource(12)), 50)
	before := bytes.Clone(buffer)
	r := bits.Read(buffer[:30])
	r.Take(5)
	b, _ := r.Bytes(20)
	spoil(b)
	r.Bytes(20)
	var w bits.Writer
	w.Put(1, 1)
	w.Raw(buffer[:30])
	w.Put(0xffffffff, 32)
	w.Raw(buffer[30:40])
	spoil(w.Bytes())
	if !bytes.Equal(buffer, before) {
		t.Error("an argument has changed")
	}
}

func TestWriterKeepsNoArgument(t *testing.T) {
	for _, before := range []string{"", "abc", "a long text before"} {
		w := writeFrom(bitsOf([]byte(before)), 8*len(before))
		buffer := append(make([]byte, 0, 50), "text"...)
		w.Raw(buffer)
		w.Put(1, 8)
		w.Put(1, 1)
		w.Raw(nil)
		if string(buffer[:cap(buffer)]) != "text"+string(make([]byte, 46)) {
			t.Errorf("it has written into its argument: %q", buffer[:cap(buffer)])
		}
		spoil(buffer)
		has(t, w, before+"text\x01\x01")
	}
}

// What a Reader gave can be spoilt, with its spare capacity, and the Reader reads on, and gives it again to another.
func TestReadersGiveNewMemory(t *testing.T) {
	const text = "0123456789abcdef"
	for n := 1; n <= 8; n++ {
		buffer := []byte(text)
		r, other := bits.Read(buffer), bits.Read(buffer)
		for rest := text; len(rest) >= n; rest = rest[n:] {
			b, _ := r.Bytes(n)
			if string(b) != rest[:n] {
				t.Fatalf("%q, not %q", b, rest[:n])
			}
			spoil(b)
			reads(t, other, n, rest[:n])
		}
		if string(buffer) != text {
			t.Errorf("%q", buffer)
		}
	}
}

// What a Writer gave can be spoilt, with its spare capacity, whenever it was given.
func TestWritersGiveNewMemory(t *testing.T) {
	var w bits.Writer
	var model writer
	for i := range 200 {
		first, second := w.Bytes(), w.Bytes()
		spoil(first)
		if !bytes.Equal(second, model.all.text()) {
			t.Fatal("results share memory")
		}
		w.Put(uint32(i), 3)
		model.put(uint32(i), 3)
		spoil(second)
		if i%50 == 0 {
			w.Raw([]byte("raw"))
			model.raw([]byte("raw"))
		}
		has(t, &w, string(model.all.text()))
	}
}

func TestReadersAndWritersAreApart(t *testing.T) {
	text := []byte("some text")
	a, b := bits.Read(text), bits.Read(text)
	takes(t, a, 13, uint32('s')|uint32('o')&31<<8)
	used(t, b, 0)
	reads(t, b, 9, "some text")
	reads(t, a, 7, "me text")
	var v, w bits.Writer
	v.Put(1, 4)
	w.Put(6, 3)
	v.Raw([]byte("v"))
	has(t, &v, "\x01v")
	has(t, &w, "\x06")
}

func TestMuchIsHandled(t *testing.T) {
	text := random(rand.New(rand.NewSource(13)), 1<<20)
	var w bits.Writer
	for _, x := range text {
		w.Put(uint32(x), 5)
		w.Put(uint32(x)>>5, 3)
	}
	w.Raw(text)
	back := bits.Read(w.Bytes())
	for _, x := range text {
		takes(t, back, 8, uint32(x))
	}
	reads(t, back, len(text), string(text))
	used(t, back, 2*len(text))
	takesNot(t, back, 1)
}
