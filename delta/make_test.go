package delta_test

import (
	"bytes"
	"math/rand"
	"strings"
	"testing"

	"stemma/api"
	"stemma/delta"
)

// makes holds a Make to what is promised of each, and tells how many bytes its delta has.
func makes(t *testing.T, base, target string) int {
	t.Helper()
	d := delta.Make([]byte(base), []byte(target))
	if b, e := delta.Apply([]byte(base), d, len(target)); string(b) != target || e != api.OK {
		t.Errorf("%.20q (%d), %.20q (%d): %d bytes, %v", base, len(base), target, len(target), len(b), e)
	}
	if got, e := modelApply(base, string(d), len(target)); got != target || e != api.OK {
		t.Errorf("%.20q (%d), %.20q (%d): %d bytes by the model, %v", base, len(base), target, len(target), len(got), e)
	}
	if len(d) > len(target)+len(target)/127+14 {
		t.Errorf("%.20q (%d), %.20q (%d): a delta of %d bytes", base, len(base), target, len(target), len(d))
	}
	return len(d)
}

// makesPiece does so for a piece of the base, too.
func makesPiece(t *testing.T, base string, at, n int) {
	t.Helper()
	if got := makes(t, base, base[at:at+n]); n >= 64 && got > 24+8*(n/65536) {
		t.Errorf("%.20q (%d), %d, %d: a delta of %d bytes", base, len(base), at, n, got)
	}
}

// texts are of many kinds.
func texts(rnd *rand.Rand) []string {
	a := noise(rnd, 3000)
	l := []string{"", "a", "ab", "abcdefg", "abcdefgh", "abcdefghi", a, a[:1000] + "changed" + a[1000:], a[500:], a[1500:] + a[:1500], a + a, strings.Repeat(a[:20], 100), lines(1, 300), lines(250, 400) + lines(100, 120)}
	for _, n := range []int{7, 8, 9, 63, 64, 65, 1000, 70000} {
		l = append(l, strings.Repeat("z", n), strings.Repeat("0123456789abcdef", n/16), few(rnd, n, 2), few(rnd, n, 5), noise(rnd, n))
	}
	return l
}

// 10.3

func TestMake(t *testing.T) {
	rnd := rand.New(rand.NewSource(1031))
	l := texts(rnd)
	for _, base := range l {
		for _, target := range l {
			makes(t, base, target)
		}
		for range 20 {
			makes(t, base, patched(rnd, base))
		}
	}
}

// Insertions have at most 127 bytes, and cost a byte each.
func TestMakeWithoutABase(t *testing.T) {
	text := noise(rand.New(rand.NewSource(1032)), 70000)
	for n := range 1200 {
		want := len(head(0, n)) + n + (n+126)/127
		if got := makes(t, "", text[:n]); got != want {
			t.Errorf("%d: a delta of %d bytes, not %d", n, got, want)
		}
	}
	for _, n := range []int{16383, 16384, 65535, 65536, 70000} {
		makes(t, "", text[:n])
		makes(t, strings.Repeat("z", 70000), text[:n])
	}
}

// Short pieces of the base, between others, must not take more than they save; far ones have the longest copies.
func TestMakeOfShortPieces(t *testing.T) {
	rnd := rand.New(rand.NewSource(1033))
	for _, before := range []string{"", strings.Repeat("z", 1<<16), strings.Repeat("z", 1<<24)} {
		base := before + noise(rnd, 3000)
		for n := 1; n < 12; n++ {
			for _, gap := range []int{1, 127} {
				var target []byte
				for range 20 {
					at := len(before) + 8*rnd.Intn(300)
					target = append(target, base[at:at+n]...)
					target = append(target, noise(rnd, gap)...)
				}
				makes(t, base, string(target))
			}
		}
	}
}

func TestMakeOfPieces(t *testing.T) {
	rnd := rand.New(rand.NewSource(1034))
	for _, base := range texts(rnd) {
		makesPiece(t, base, 0, len(base))
		for range 60 {
			n := min(len(base), rnd.Intn(1<<rnd.Intn(18)))
			makesPiece(t, base, rnd.Intn(len(base)-n+1), n)
		}
	}
	base := noise(rnd, 400)
	for at := range base {
		for n := range min(200, len(base)-at) {
			makesPiece(t, base, at, n)
		}
	}
}

func TestMakeOfGreatPieces(t *testing.T) {
	rnd := rand.New(rand.NewSource(1035))
	for _, base := range []string{noise(rnd, 1<<24+300000), strings.Repeat("z", 300000), strings.Repeat("a line that is had again\n", 20000)} {
		for _, n := range []int{65535, 65536, 65537, 65600, 131071, 131072, 131073, 196608, 200000, 262144} {
			for _, at := range []int{0, 1, 255, 256, 257, 65535, 65536, (len(base) - n) / 2, len(base) - n} {
				if at+n <= len(base) {
					makesPiece(t, base, at, n)
				}
			}
		}
	}
}

// A base may have much that begins as the piece does, or that goes on as it does, and the piece itself at last.
func TestMakeOfPiecesOfTemptingBases(t *testing.T) {
	rnd := rand.New(rand.NewSource(1036))
	for _, n := range []int{64, 65, 100, 1000} {
		piece := noise(rnd, n)
		for shift := range 17 {
			base := ""
			for len(base) < 20000 {
				at := rnd.Intn(n)
				part := piece[at:min(n, at+8*(1+rnd.Intn(7)))]
				base += part + noise(rnd, 8-len(part)%8)
			}
			base += noise(rnd, 8-len(base)%8+shift)
			makesPiece(t, base+piece, len(base), n)
			makesPiece(t, base+piece+base, len(base), n)
		}
		part := strings.Repeat(piece[:48], 200)
		makesPiece(t, part+piece, len(part), n)
	}
	zeros := strings.Repeat("\x00", 5000)
	base := zeros + "a" + zeros[:900] + "b" + zeros
	for _, at := range []int{4000, 4900, 4990, 4999, 5000, 5001, 5890} {
		for _, n := range []int{64, 901, 902, 903, 1000, 2000} {
			makesPiece(t, base, at, n)
		}
	}
}

// A small change has a small delta: the sizes, the new bytes, and two copies.
func TestMakeOfChanges(t *testing.T) {
	rnd := rand.New(rand.NewSource(1037))
	base := noise(rnd, 3000)
	for at := 0; at <= len(base); at++ {
		most := 2*2 + 2*5
		if at > 0 && at < 8 || at > len(base)-9 && at < len(base) {
			most += 1 + 8 // what is left has no whole block
		}
		for put, target := range map[int]string{0: base[at:] + base[:at], 7: base[:at] + "changed" + base[at:], 1: base[:at] + "q" + base[min(at+1, len(base)):]} {
			if n := makes(t, base, target); n > most+1+put {
				t.Errorf("%d, %d: a delta of %d bytes", at, put, n)
			}
		}
	}
}

// That holds too where a text consists of a few blocks again and again, each at more places than are tried.
func TestMakeOfChangesAmongFewBlocks(t *testing.T) {
	rnd := rand.New(rand.NewSource(1040))
	for _, size := range []int{1, 3, 4, 8, 12, 16} {
		for blocks := 2; blocks < 20; blocks++ {
			text := few(rnd, size*blocks, 256)
			base := ""
			for len(base) < 5000 {
				at := size * rnd.Intn(blocks)
				base += text[at : at+size]
			}
			at := 8 + rnd.Intn(len(base)-17)
			changed := []byte(base)
			changed[at] ^= byte(1 + rnd.Intn(255))
			for put, target := range map[int]string{1: string(changed), 7: base[:at] + "changed" + base[at:], 0: base[:at] + base[at+1:]} {
				if n := makes(t, base, target); n > 2*2+2*5+1+put {
					t.Errorf("%d blocks of %d: %d, %d: a delta of %d bytes", blocks, size, at, put, n)
				}
			}
		}
	}
}

// Of the places that begin alike, the one that goes on longest is taken.
func TestMakeOfTheLongest(t *testing.T) {
	rnd := rand.New(rand.NewSource(1039))
	for right := range 20 {
		base := ""
		for i := range 20 {
			base += "the same" + noise(rnd, 8*(1+rnd.Intn(20)))
			if i == right {
				base += "and what only one has"
			}
			base += noise(rnd, 8-len(base)%8)
		}
		from := strings.Index(base, "and what")
		at := strings.LastIndex(base[:from], "the same")
		if n := makes(t, base, "new "+base[at:from+21]); n > 2*2+1+4+5 {
			t.Errorf("%d: a delta of %d bytes", right, n)
		}
	}
}

// No delta hangs on the order of a map.
func TestMakeIsOne(t *testing.T) {
	rnd := rand.New(rand.NewSource(1038))
	for _, base := range texts(rnd) {
		target := patched(rnd, base)
		d := delta.Make([]byte(base), []byte(target))
		for range 20 {
			if again := delta.Make([]byte(base), []byte(target)); !bytes.Equal(d, again) {
				t.Fatalf("%.40q (%d), %.40q (%d): two deltas", base, len(base), target, len(target))
			}
		}
	}
}

// Texts that have the same again and again take no longer than others.
func TestMakeEnds(t *testing.T) {
	const n = 1 << 20
	for _, part := range []string{"\x00", "ab", "01234567", "0123456789abcde", "0123456789abcdef", lines(1, 50)} {
		base := strings.Repeat(part, n/len(part))
		makes(t, base, base+"q")
		makes(t, base, base[:n/2]+"q"+base[:n/2])
		makes(t, base, base[:n/2]+"q")
		makes(t, base[:n/2], base+"q")
	}
}
