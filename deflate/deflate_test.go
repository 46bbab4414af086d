package deflate_test

import (
	"bytes"
	"encoding/binary"
	"hash/adler32"
	"math"
	"math/rand"
	"slices"
	"strings"
	"testing"

	"stemma/api"
	"stemma/deflate"
	"stemma/inflate"
)

var levels = []int{math.MinInt, -1, 0, 1, 2, 3, math.MaxInt}

// texts are of many kinds.
func texts() [][]byte {
	rnd := rand.New(rand.NewSource(7))
	l := [][]byte{nil, []byte("a"), []byte("ab"), []byte("abc"), []byte("aaa"), []byte("aaaa"), []byte("abcabc"), []byte("abcabcabcabc"), growing(rnd)}
	all := make([]byte, 256)
	for i := range all {
		all[i] = byte(i)
	}
	l = append(l, all, bytes.Repeat(all, 3), []byte(strings.Repeat("the same words again ", 200)))
	for _, n := range []int{10, 100, 1000, 10000} {
		l = append(l, make([]byte, n), noise(rnd, n), few(rnd, n, 2), few(rnd, n, 20), few(rnd, n, 144), words(rnd, n), repeats(rnd, n))
	}
	l = append(l, noise(rnd, 65535), words(rnd, 65536), repeats(rnd, 70000))
	for range 60 {
		l = append(l, steep(rnd), repeats(rnd, 1+rnd.Intn(3000)), few(rnd, 1+rnd.Intn(300), 1+rnd.Intn(256)))
	}
	return l
}

// holds holds a stream to its text, by this project's own reader, by the lister and by Go's library.
func holds(t *testing.T, stream, text []byte) []found {
	t.Helper()
	if out, used, e := inflate.Raw(stream, len(text)); !bytes.Equal(out, text) || used != len(stream) || e != api.OK {
		t.Fatalf("%.40x: %d bytes, %d used of %d, error %d", text, len(out), used, len(stream), e)
	}
	if !bytes.Equal(unpacked(t, stream), text) {
		t.Fatalf("%.40x: another text", text)
	}
	l, out := blocksOf(t, stream)
	if !bytes.Equal(out, text) {
		t.Fatalf("%.40x: another text in its blocks", text)
	}
	return l
}

func kindsOf(l []found) []int {
	var kinds []int
	for _, f := range l {
		kinds = append(kinds, f.kind)
	}
	return kinds
}

// 7.1

func TestExamples(t *testing.T) {
	if b := deflate.Raw([]byte("ab"), 0); string(b) != "\x01\x02\x00\xfd\xffab" {
		t.Errorf("%x", b)
	}
	if b := deflate.Zlib(nil, 0); string(b) != "\x78\x01\x01\x00\x00\xff\xff\x00\x00\x00\x01" {
		t.Errorf("%x", b)
	}
}

func TestStored(t *testing.T) {
	const most = 65535
	text := noise(rand.New(rand.NewSource(711)), 3*most+10)
	for _, n := range []int{0, 1, 2, 255, 256, most - 1, most, most + 1, 2*most - 1, 2 * most, 2*most + 1, 3 * most, 3*most + 10} {
		var sizes []int
		for _, level := range levels[:3] {
			l := holds(t, deflate.Raw(text[:n], level), text[:n])
			for _, f := range l {
				sizes = append(sizes, f.size)
				if f.kind != isStored || f.size > most {
					t.Error(n, level, f)
				}
			}
			if len(l) != max(1, (n+most-1)/most) {
				t.Error(n, level, len(l), "blocks")
			}
		}
	}
}

func TestFixed(t *testing.T) {
	for _, b := range texts() {
		if l := holds(t, deflate.Raw(b, 1), b); len(l) != 1 || l[0].kind != isFixed {
			t.Errorf("%.40x: %v", b, l)
		}
	}
}

func TestMixed(t *testing.T) {
	for _, b := range texts() {
		for _, level := range levels[4:] {
			holds(t, deflate.Raw(b, level), b)
		}
	}
}

// Each type of blocks serves where it is the shortest: behind one another too, where a stored one does not begin with a whole byte.
func TestEachType(t *testing.T) {
	rnd := rand.New(rand.NewSource(712))
	for _, c := range []struct {
		b     []byte
		kinds []int
	}{
		{nil, []int{isFixed}},
		{[]byte("ab"), []int{isFixed}},
		{noise(rnd, 1000), []int{isStored}},
		{words(rnd, 1000), []int{isDynamic}},
	} {
		if l := holds(t, deflate.Raw(c.b, 2), c.b); !slices.Equal(kindsOf(l), c.kinds) {
			t.Errorf("%.40x: %v", c.b, l)
		}
	}
	long := append(words(rnd, 70000), noise(rnd, 140000)...)
	long = append(append(long, words(rnd, 120000)...), "a few bytes more"...)
	if kinds := kindsOf(holds(t, deflate.Raw(long, 2), long)); !slices.Contains(kinds, isStored) || !slices.Contains(kinds, isDynamic) {
		t.Error(kinds)
	}
	tail := append(make([]byte, 65535), "abc"...)
	if kinds := kindsOf(holds(t, deflate.Raw(tail, 2), tail)); !slices.Equal(kinds, []int{isDynamic, isFixed}) {
		t.Error(kinds)
	}
}

func TestZlib(t *testing.T) {
	for _, b := range texts() {
		for _, level := range levels {
			z := deflate.Zlib(b, level)
			head := "\x78\x9c"
			if level <= 0 {
				head = "\x78\x01"
			} else if level == 1 {
				head = "\x78\x5e"
			}
			want := append([]byte(head), deflate.Raw(b, level)...)
			want = binary.BigEndian.AppendUint32(want, adler32.Checksum(b))
			if !bytes.Equal(z, want) {
				t.Fatalf("%.40x, %d: %.40x, not %.40x", b, level, z, want)
			}
			if out, used, e := inflate.Zlib(z, len(b)); !bytes.Equal(out, b) || used != len(z) || e != api.OK {
				t.Fatalf("%.40x, %d: %d bytes, %d used of %d, error %d", b, level, len(out), used, len(z), e)
			}
			if !bytes.Equal(unzipped(t, z), b) {
				t.Fatalf("%.40x, %d: another text", b, level)
			}
		}
	}
}

// 7.2

// fits holds matches to what is promised of them, and tells how many bytes lie in them.
func fits(t *testing.T, b []byte, reach int) int {
	t.Helper()
	end, in := 0, 0
	for _, m := range deflate.Matches(b, reach) {
		if m.At < end || m.Len < 3 || m.Len > 258 || m.Dist < 1 || m.Dist > reach || m.Dist > 32768 || m.Dist > m.At || m.At+m.Len > len(b) {
			t.Fatalf("%.40x, %d: %v, after %d, in %d bytes", b, reach, m, end, len(b))
		}
		for i := m.At; i < m.At+m.Len; i++ {
			if b[i] != b[i-m.Dist] {
				t.Fatalf("%.40x, %d: %v at %d", b, reach, m, i)
			}
		}
		end = m.At + m.Len
		in += m.Len
	}
	return in
}

func TestMatches(t *testing.T) {
	for _, b := range texts() {
		for _, reach := range []int{1, 2, 3, 100, 32768, math.MaxInt} {
			fits(t, b, reach)
		}
		for _, reach := range []int{0, -1, -32768, math.MinInt} {
			if l := deflate.Matches(b, reach); len(l) > 0 {
				t.Errorf("%.40x, %d: %v", b, reach, l)
			}
		}
	}
}

// No match reaches beyond 32,768, also if more is asked; and there are matches as far as that.
func TestFarMatches(t *testing.T) {
	rnd := rand.New(rand.NewSource(72))
	for distance := 32765; distance < 32772; distance++ {
		b := again(noise(rnd, distance), distance, 500)
		for _, reach := range []int{distance - 1, distance, distance + 1, 1 << 20, math.MaxInt} {
			in := fits(t, b, reach)
			if found := in >= 500; found != (distance <= min(reach, 32768)) {
				t.Error(distance, reach, in)
			}
		}
		holds(t, deflate.Raw(b, 1), b)
		holds(t, deflate.Raw(b, 2), b)
	}
}

func TestEqualMatches(t *testing.T) {
	for _, reach := range []int{1, 2, math.MaxInt} {
		for _, n := range append(upTo(1100), 5000, 32768, 65536, 100000) {
			b := bytes.Repeat([]byte{byte(n)}, n)
			if in := fits(t, b, reach); n >= 4 && n-in > 260 || n < 4 && in > 0 && n != in+1 {
				t.Error(n, reach, in)
			}
		}
	}
}

func upTo(n int) []int {
	l := make([]int, n)
	for i := range l {
		l[i] = i
	}
	return l
}

// 7.3: that texts come back is tested with 7.1

func TestSizes(t *testing.T) {
	for _, b := range texts() {
		notLonger(t, b)
	}
	rnd := rand.New(rand.NewSource(73))
	for n := range 600 {
		notLonger(t, noise(rnd, n))
		notLonger(t, few(rnd, n, 1+rnd.Intn(256)))
		notLonger(t, likeFixed(rnd, n))
	}
}

// Where the fixed block gets a bit longer with each text, and at last longer than the stored one.
func TestSizesBitByBit(t *testing.T) {
	rnd := rand.New(rand.NewSource(78))
	for high := 300; high < 350; high++ {
		b := few(rnd, 720, 144)
		for i := range high {
			b[i] = byte(144 + rnd.Intn(112))
		}
		rnd.Shuffle(len(b), func(i, j int) { b[i], b[j] = b[j], b[i] })
		notLonger(t, again(b, len(b), 40))
	}
}

func notLonger(t *testing.T, b []byte) {
	t.Helper()
	two := len(deflate.Raw(b, 2))
	for _, level := range levels[:4] {
		if n := len(deflate.Raw(b, level)); two > n {
			t.Errorf("%.40x, %d bytes: %d with level 2, %d with level %d", b, len(b), two, n, level)
		}
	}
}

// Where a match lies over the place at which level 2 divides a text, as few stored blocks as there can be are fewer.
func TestSizesOfDividedNoise(t *testing.T) {
	rnd := rand.New(rand.NewSource(74))
	for before := 65535 - 10; before < 65535+2; before++ {
		b := again(noise(rnd, before), 1000, 10)
		notLonger(t, append(b, noise(rnd, 2*65535-len(b))...))
	}
}

// Where the fixed codes are the best ones, a single block is shorter than two.
func TestSizesOfDividedFixed(t *testing.T) {
	rnd := rand.New(rand.NewSource(75))
	for n := 65500; n < 75000; n += 500 {
		notLonger(t, likeFixed(rnd, n))
	}
}

func TestSizesOfEqual(t *testing.T) {
	for _, n := range append(upTo(3000), 10000, 32768, 65535, 65536, 65537, 100000, 200000, 1<<20) {
		b := bytes.Repeat([]byte{byte(n % 251)}, n)
		stream := deflate.Raw(b, 2)
		if len(stream) > 40+n/50 {
			t.Error(n, len(stream))
		}
		holds(t, stream, b)
	}
}

// No number is promised of other texts. This one is there so that a change that compresses less does not pass unseen.
func TestCompresses(t *testing.T) {
	rnd := rand.New(rand.NewSource(77))
	for _, n := range []int{300, 1000, 10000, 100000} {
		for _, b := range [][]byte{words(rnd, n), repeats(rnd, n), few(rnd, n, 2), few(rnd, n, 20), few(rnd, n, 200)} {
			if size, other := len(deflate.Raw(b, 2)), len(packed(t, b)); 100*size > 113*other {
				t.Errorf("%.40x, %d bytes: %d, not about %d", b, n, size, other)
			}
		}
	}
}

// 7.4

// guarded is b with more behind it, which no call may touch.
func guarded(b []byte) []byte {
	return append(slices.Clip(b), "guard guard"...)[:len(b)]
}

func TestNewMemory(t *testing.T) {
	for _, text := range texts()[:20] {
		b := guarded(text)
		for _, level := range levels {
			for _, call := range []func([]byte, int) []byte{deflate.Raw, deflate.Zlib} {
				first := call(b, level)
				kept := slices.Clone(first)
				second := call(b, level)
				wipe(second)
				if !bytes.Equal(first, kept) || !bytes.Equal(b, text) || string(b[len(b):][:11]) != "guard guard" {
					t.Fatalf("%.40x, %d: changed", text, level)
				}
			}
		}
		l, other := deflate.Matches(b, 1000), deflate.Matches(b, 1000)
		clear(other[:cap(other)])
		if slices.Contains(l, deflate.Match{}) || !bytes.Equal(b, text) || string(b[len(b):][:11]) != "guard guard" {
			t.Fatalf("%.40x: changed", text)
		}
	}
}

func wipe(b []byte) {
	b = b[:cap(b)]
	for i := range b {
		b[i] ^= 0x55
	}
}

// A text changed later does not change what came of it.
func TestNotKept(t *testing.T) {
	b := []byte(strings.Repeat("some text, and ", 20))
	for _, level := range levels {
		text := slices.Clone(b)
		stream := deflate.Raw(text, level)
		wipe(text)
		holds(t, stream, b)
	}
}

// Texts in which every position has many like it.
func TestEnds(t *testing.T) {
	rnd := rand.New(rand.NewSource(76))
	const n = 1 << 20
	period := bytes.Repeat(append(bytes.Repeat([]byte("a"), 257), 'b'), n/258)
	for _, b := range [][]byte{make([]byte, n), few(rnd, n, 2), bytes.Repeat([]byte("aab"), n/3), period, repeats(rnd, n)} {
		fits(t, b, 32768)
		holds(t, deflate.Raw(b, 2), b)
	}
}
