package sum_test

import (
	"bytes"
	"crypto/sha1"
	"encoding/binary"
	"encoding/hex"
	"hash/adler32"
	"hash/crc32"
	"math"
	"math/rand"
	"strings"
	"testing"

	"stemma/api"
	"stemma/sum"
)

var kinds = []int{api.KSHA1, api.KCRC, api.KAdler}

func open(t *testing.T, kind int) *sum.Sum {
	t.Helper()
	s, e := sum.New(kind)
	if s == nil || e != api.OK {
		t.Fatal(kind, s, e)
	}
	return s
}

// known tells by other means what a Sum of text has to tell.
func known(kind int, text []byte) []byte {
	switch kind {
	case api.KSHA1:
		d := sha1.Sum(text)
		return d[:]
	case api.KCRC:
		return binary.BigEndian.AppendUint32(nil, crc32.ChecksumIEEE(text))
	}
	return binary.BigEndian.AppendUint32(nil, adler32.Checksum(text))
}

// direct tells the same as a Sum, by the function of the kind.
func direct(kind int, text []byte) []byte {
	switch kind {
	case api.KSHA1:
		return sum.SHA1(text)
	case api.KCRC:
		return binary.BigEndian.AppendUint32(nil, sum.CRC(text))
	}
	return binary.BigEndian.AppendUint32(nil, sum.Adler(text))
}

func tells(t *testing.T, s *sum.Sum, kind int, text []byte) {
	t.Helper()
	if got := s.Sum(); !bytes.Equal(got, known(kind, text)) {
		t.Fatalf("kind %d of %d bytes: %x, not %x", kind, len(text), got, known(kind, text))
	}
}

func random(r *rand.Rand, n int) []byte {
	b := make([]byte, n)
	r.Read(b)
	return b
}

// 3.1

func TestSHA1OfTheStandard(t *testing.T) {
	for text, want := range map[string]string{
		"":    "da39a3ee5e6b4b0d3255bfef95601890afd80709",
		"abc": "a9993e364706816aba3e25717850c26c9cd0d89d",
		"abcdbcdecdefdefgefghfghighijhijkijkljklmklmnlmnomnopnopq":                                                         "84983e441c3bd26ebaae4aa1f95129e5e54670f1",
		"abcdefghbcdefghicdefghijdefghijkefghijklfghijklmghijklmnhijklmnoijklmnopjklmnopqklmnopqrlmnopqrsmnopqrstnopqrstu": "a49b2446a02c645bf419f995b67091253a04a259",
		strings.Repeat("a", 1000000): "34aa973cd4c4daa4f61eeb2bdbad27316534016f",
		"blob 0\x00":                 "e69de29bb2d1d6434b8b29ae775ad8c2e48c5391",
	} {
		if got := hex.EncodeToString(sum.SHA1([]byte(text))); got != want {
			t.Errorf("%d bytes: %s, not %s", len(text), got, want)
		}
	}
}

func TestCRCOfTheStandard(t *testing.T) {
	for text, want := range map[string]uint32{
		"":                 0,
		"\x00":             0xd202ef8d,
		"\x00\x00\x00\x00": 0x2144df1c,
		"\xff\xff\xff\xff": 0xffffffff,
		"a":                0xe8b7be43,
		"123456789":        0xcbf43926,
		"The quick brown fox jumps over the lazy dog": 0x414fa339,
	} {
		if got := sum.CRC([]byte(text)); got != want {
			t.Errorf("%q: %08x, not %08x", text, got, want)
		}
	}
}

func TestAdlerOfTheStandard(t *testing.T) {
	for text, want := range map[string]uint32{
		"":             1,
		"\x00":         1<<16 | 1,
		"\x00\x00\x00": 3<<16 | 1,
		"\x01":         2<<16 | 2,
		"\xff":         256<<16 | 256,
		"a":            0x00620062,
		"Wikipedia":    0x11e60398,
	} {
		if got := sum.Adler([]byte(text)); got != want {
			t.Errorf("%q: %08x, not %08x", text, got, want)
		}
	}
}

// Both sums of Adler come to just below, just at and just above the modulus.
func TestAdlerAtItsModulus(t *testing.T) {
	most := bytes.Repeat([]byte{255}, 256) // a is 65,281 behind it
	for last, a := range map[byte]uint32{239: 65520, 240: 0, 241: 1, 255: 15} {
		text := append(bytes.Clone(most), last)
		if got := sum.Adler(text) & 0xffff; got != a {
			t.Errorf("a: %d, not %d", got, a)
		}
	}
	for zeros, c := range map[int]uint32{65520: 65520, 65521: 0, 65522: 1} {
		if got := sum.Adler(make([]byte, zeros)); got != c<<16|1 {
			t.Errorf("c: %08x", got)
		}
	}
	text := bytes.Repeat([]byte{255}, 1<<20)
	if got, want := sum.Adler(text), adler32.Checksum(text); got != want {
		t.Errorf("%08x, not %08x", got, want)
	}
}

// The lengths go over several blocks, and so over all ways in which the last one fills.
func TestAllLengths(t *testing.T) {
	r := rand.New(rand.NewSource(1))
	for n := range 400 {
		for _, text := range [][]byte{random(r, n), make([]byte, n), bytes.Repeat([]byte{255}, n)} {
			for _, kind := range kinds {
				if got := direct(kind, text); !bytes.Equal(got, known(kind, text)) {
					t.Fatalf("kind %d of %d bytes: %x", kind, n, got)
				}
			}
		}
	}
}

func TestAllBytes(t *testing.T) {
	for x := range 256 {
		for y := range 256 {
			text := []byte{byte(x), byte(y)}
			if sum.CRC(text) != crc32.ChecksumIEEE(text) || sum.Adler(text) != adler32.Checksum(text) {
				t.Fatalf("%x: %08x, %08x", text, sum.CRC(text), sum.Adler(text))
			}
		}
	}
}

// The bits of the text's length need more than two bytes here.
func TestLongTexts(t *testing.T) {
	r := rand.New(rand.NewSource(2))
	for _, n := range []int{8191, 8192, 65535, 65536, 1 << 20, 2<<20 + 1} {
		text := random(r, n)
		for _, kind := range kinds {
			if got := direct(kind, text); !bytes.Equal(got, known(kind, text)) {
				t.Errorf("kind %d of %d bytes: %x", kind, n, got)
			}
		}
	}
}

func TestHexAndBack(t *testing.T) {
	for x := range 256 {
		b := []byte{byte(x), byte(255 - x), 0}
		s := sum.Hex(b)
		if s != hex.EncodeToString(b) {
			t.Errorf("%v: %q", b, s)
		}
		if back, ok := sum.Unhex(s); !ok || !bytes.Equal(back, b) {
			t.Errorf("%q: %v, %v", s, back, ok)
		}
	}
	for _, n := range []int{0, 1, 2, 20, 1000} {
		b := random(rand.New(rand.NewSource(int64(n))), n)
		if back, ok := sum.Unhex(sum.Hex(b)); len(sum.Hex(b)) != 2*n || !ok || !bytes.Equal(back, b) {
			t.Error(n, back, ok)
		}
	}
	if sum.Hex(nil) != "" || sum.Hex([]byte{0x0f, 0xf0, 0x9a}) != "0ff09a" {
		t.Error(sum.Hex(nil), sum.Hex([]byte{0x0f, 0xf0, 0x9a}))
	}
	if b, ok := sum.Unhex(""); len(b) != 0 || !ok {
		t.Error(b, ok)
	}
}

func noBytes(t *testing.T, s string) {
	t.Helper()
	if b, ok := sum.Unhex(s); b != nil || ok {
		t.Errorf("%q: %v, %v", s, b, ok)
	}
}

// Every pair of bytes is a Hex just if both are digits.
func TestUnhexOfAllPairs(t *testing.T) {
	const digits = "0123456789abcdef"
	for x := range 256 {
		for y := range 256 {
			s := string([]byte{byte(x), byte(y)})
			high, low := strings.IndexByte(digits, byte(x)), strings.IndexByte(digits, byte(y))
			if high < 0 || low < 0 {
				noBytes(t, s)
				noBytes(t, "00"+s)
				noBytes(t, s+"ff")
				continue
			}
			if b, ok := sum.Unhex(s); !ok || len(b) != 1 || int(b[0]) != 16*high+low {
				t.Errorf("%q: %v, %v", s, b, ok)
			}
		}
	}
}

func TestUnhexOfOther(t *testing.T) {
	for _, s := range []string{"0", "f", "000", "abc", "0g", "g0", "FF", "fF", "Ff", " 0", "0 ", "00 ", " 00", "0x", "0x00", "-1", "+1", "0\x00", "\x00\x00", "ä", "ff\n", "..", strings.Repeat("0", 39), strings.Repeat("0", 39) + "A"} {
		noBytes(t, s)
	}
}

func TestExamples(t *testing.T) {
	if s := sum.Hex(sum.SHA1(nil)); s != "da39a3ee5e6b4b0d3255bfef95601890afd80709" {
		t.Error(s)
	}
	if c, a := sum.CRC([]byte("123456789")), sum.Adler([]byte("Wikipedia")); c != 0xcbf43926 || a != 0x11e60398 {
		t.Errorf("%08x; %08x", c, a)
	}
}

// 3.2

func TestNewTakesKinds(t *testing.T) {
	for kind, want := range map[int]string{1: "da39a3ee5e6b4b0d3255bfef95601890afd80709", 2: "00000000", 3: "00000001"} {
		s := open(t, kind)
		if got := hex.EncodeToString(s.Sum()); got != want {
			t.Errorf("kind %d of nothing: %s", kind, got)
		}
		s.Write(nil)
		s.Write([]byte{})
		if got := hex.EncodeToString(s.Sum()); got != want {
			t.Errorf("kind %d of nothing written: %s", kind, got)
		}
	}
	for _, kind := range []int{0, -1, 4, 5, 257, 1<<32 + 1, math.MinInt, math.MaxInt} {
		if s, e := sum.New(kind); s != nil || e != api.ErrArg {
			t.Error(kind, s, e)
		}
	}
}

func TestChecksumsHaveTheMostSignificantByteFirst(t *testing.T) {
	for kind, want := range map[int]string{api.KCRC: "cbf43926", api.KAdler: "091e01de"} {
		s := open(t, kind)
		s.Write([]byte("123456789"))
		if got := hex.EncodeToString(s.Sum()); got != want {
			t.Errorf("kind %d: %s, not %s", kind, got, want)
		}
	}
}

func TestWritingMayContinue(t *testing.T) {
	r := rand.New(rand.NewSource(3))
	text := random(r, 300)
	for _, kind := range kinds {
		s := open(t, kind)
		for i := range text {
			tells(t, s, kind, text[:i])
			tells(t, s, kind, text[:i])
			s.Write(text[i : i+1])
		}
		tells(t, s, kind, text)
	}
}

func TestSumsAreApart(t *testing.T) {
	for _, kind := range kinds {
		a, b := open(t, kind), open(t, kind)
		a.Write([]byte("one text"))
		tells(t, b, kind, nil)
		b.Write([]byte("and another"))
		a.Write([]byte(", and more"))
		tells(t, a, kind, []byte("one text, and more"))
		tells(t, b, kind, []byte("and another"))
	}
}

// 3.3

func TestCutAnywhere(t *testing.T) {
	text := random(rand.New(rand.NewSource(4)), 200)
	for _, kind := range kinds {
		for first := range text {
			for second := first; second <= len(text); second++ {
				s := open(t, kind)
				s.Write(text[:first])
				s.Write(text[first:second])
				s.Write(text[second:])
				tells(t, s, kind, text)
			}
		}
	}
}

func TestManyPieces(t *testing.T) {
	r := rand.New(rand.NewSource(5))
	for range 300 {
		text := random(r, r.Intn(5000))
		longest := 1 + r.Intn(200)
		for _, kind := range kinds {
			s := open(t, kind)
			for rest := text; len(rest) > 0; {
				n := min(r.Intn(longest+1), len(rest))
				s.Write(rest[:n])
				rest = rest[n:]
				if r.Intn(9) == 0 {
					tells(t, s, kind, text[:len(text)-len(rest)])
				}
			}
			tells(t, s, kind, text)
		}
	}
}

// flipped tells text with other bits: those of burst, from bit at on, the least significant bit of a byte first.
func flipped(text []byte, at int, burst uint32) []byte {
	b := bytes.Clone(text)
	for i := range 32 {
		if burst>>i&1 == 1 {
			b[(at+i)/8] ^= 1 << ((at + i) % 8)
		}
	}
	return b
}

func TestOtherBitsChangeTheCRC(t *testing.T) {
	r := rand.New(rand.NewSource(6))
	text := random(r, 40)
	whole := sum.CRC(text)
	differs := func(at int, burst uint32) {
		t.Helper()
		if sum.CRC(flipped(text, at, burst)) == whole {
			t.Errorf("bits %08x from %d on", burst, at)
		}
	}
	for at := range 8*len(text) - 31 {
		differs(at, 1<<31)
		differs(at, 0xffffffff)
		differs(at, 0xedb88320)
		for i := range 32 {
			differs(at, 1|1<<i)
		}
		for range 200 {
			differs(at, r.Uint32()|1)
		}
	}
}

// 3.4

func TestArgumentsAndResultsAreApart(t *testing.T) {
	for _, kind := range kinds {
		buffer := random(rand.New(rand.NewSource(7)), 200)
		before := bytes.Clone(buffer)
		s := open(t, kind)
		s.Write(buffer[:100])
		if got := direct(kind, buffer[:100]); !bytes.Equal(got, s.Sum()) {
			t.Error(kind, got)
		}
		if !bytes.Equal(buffer, before) {
			t.Error("the argument has changed", kind)
		}
		spoil(buffer)
		tells(t, s, kind, before[:100])
		first, second := s.Sum(), s.Sum()
		spoil(first)
		if !bytes.Equal(second, known(kind, before[:100])) {
			t.Error("results share memory", kind)
		}
		spoil(second)
		tells(t, s, kind, before[:100])
		s.Write(before[100:])
		tells(t, s, kind, before)
	}
}

func TestFunctionsGiveNewMemory(t *testing.T) {
	spoil(sum.SHA1(nil))
	if got := sum.Hex(sum.SHA1(nil)); got != "da39a3ee5e6b4b0d3255bfef95601890afd80709" {
		t.Error(got)
	}
	a, _ := sum.Unhex("00ff")
	b, _ := sum.Unhex("00ff")
	spoil(a)
	if sum.Hex(b) != "00ff" {
		t.Error(b)
	}
	text := append(make([]byte, 0, 9), "ab"...)
	if sum.Hex(text) != "6162" || string(text[:9]) != "ab\x00\x00\x00\x00\x00\x00\x00" {
		t.Error(text[:9])
	}
}

func spoil(b []byte) {
	b = b[:cap(b)]
	for i := range b {
		b[i] ^= 0xa5
	}
}

func TestNothingPanics(t *testing.T) {
	for _, b := range [][]byte{nil, {}, {0}, make([]byte, 1<<20)} {
		for _, kind := range kinds {
			s := open(t, kind)
			s.Write(b)
			s.Write(b)
			tells(t, s, kind, append(bytes.Clone(b), b...))
			direct(kind, b)
		}
		sum.Unhex(string(b))
		if back, ok := sum.Unhex(sum.Hex(b)); !ok || !bytes.Equal(back, b) {
			t.Error(len(b), ok)
		}
	}
}
