package huff_test

import (
	"fmt"
	"math"
	"math/rand"
	"slices"
	"testing"

	"stemma/api"
	"stemma/bits"
	"stemma/huff"
)

// noLengths lists numbers that are no length of a code; some of them are 0 to 15 in their lower bits.
var noLengths = []int{-1, -2, -15, -16, 16, 17, 31, 32, 63, 64, 65, 255, 256, 257, -255, 1 << 16, 1<<16 + 1, 1 << 32, 1<<32 + 1, -1 << 32, math.MaxInt, math.MinInt, math.MinInt + 1}

// same is n times the value v.
func same(v, n int) []int {
	return slices.Repeat([]int{v}, n)
}

// stairs has the lengths 1 to 15 once each, and last.
func stairs(last ...int) []int {
	var l []int
	for length := 1; length <= 15; length++ {
		l = append(l, length)
	}
	return append(l, last...)
}

func hasCodes(t *testing.T, lengths []int, want ...uint32) {
	t.Helper()
	if c, e := huff.Codes(lengths); !slices.Equal(c, want) || e != api.OK {
		t.Errorf("%v: %v %d, not %v", lengths, c, e, want)
	}
	if c, e := huff.New(lengths); c == nil || e != api.OK {
		t.Errorf("New(%v): %d", lengths, e)
	}
}

// refuses is also of 5.2: New returns the error of Codes.
func refuses(t *testing.T, lengths []int, want api.Errno) {
	t.Helper()
	if c, e := huff.Codes(lengths); c != nil || e != want {
		t.Errorf("%v: %v %d, not %d", lengths, c, e, want)
	}
	if c, e := huff.New(lengths); c != nil || e != want {
		t.Errorf("New(%v): %v %d, not %d", lengths, c, e, want)
	}
}

// 5.1

func TestCodes(t *testing.T) {
	hasCodes(t, []int{2, 1, 3, 3}, 2, 0, 6, 7)
	hasCodes(t, []int{3, 3, 3, 3, 3, 2, 4, 4}, 2, 3, 4, 5, 6, 0, 14, 15) // the example of RFC 1951
	hasCodes(t, nil)
	hasCodes(t, []int{})
	hasCodes(t, []int{0, 0, 0}, 0, 0, 0)
	hasCodes(t, []int{0, 1, 0}, 0, 0, 0)
	hasCodes(t, []int{15}, 0)
	hasCodes(t, []int{15, 15, 15}, 0, 1, 2)
	hasCodes(t, []int{1, 1}, 0, 1)
	hasCodes(t, []int{4, 0, 2}, 4, 0, 0)
	hasCodes(t, []int{15, 1}, 1<<14, 0)
	hasCodes(t, []int{3, 1, 3}, 4, 0, 5)
	hasCodes(t, stairs(15), 0, 2, 6, 14, 30, 62, 126, 254, 510, 1022, 2046, 4094, 8190, 16382, 32766, 32767)
}

func TestFixedCodes(t *testing.T) {
	lengths := slices.Concat(same(8, 144), same(9, 112), same(7, 24), same(8, 8)) // RFC 1951, 3.2.6
	c, e := huff.Codes(lengths)
	if e != api.OK || !huff.Complete(lengths) {
		t.Fatal(e)
	}
	for symbol, want := range map[int]uint32{0: 0b00110000, 143: 0b10111111, 144: 0b110010000, 255: 0b111111111, 256: 0, 279: 0b0010111, 280: 0b11000000, 287: 0b11000111} {
		if c[symbol] != want {
			t.Errorf("%d: %b, not %b", symbol, c[symbol], want)
		}
	}
}

func TestLengthsOutOfBounds(t *testing.T) {
	for _, no := range noLengths {
		for _, l := range [][]int{{no}, {no, 1}, {1, no}, {2, no, 1}, {1, 1, no}, {0, 0, no}, {no, no}, {1, 1, 1, no}, {no, 1, 1, 1}} {
			refuses(t, l, api.ErrArg)
			if huff.Complete(l) {
				t.Error(l, "are complete")
			}
		}
	}
	for length := range 16 {
		if _, e := huff.Codes([]int{length}); e != api.OK {
			t.Error(length, e)
		}
	}
}

func TestMostSymbols(t *testing.T) {
	for _, l := range [][]int{same(0, 400), same(9, 400), same(15, 400), append(same(0, 399), 1), append(same(0, 398), 1, 1)} {
		if c, e := huff.Codes(l); len(c) != 400 || e != api.OK {
			t.Error(l, e)
		}
	}
	for _, l := range [][]int{same(0, 401), same(9, 401), same(15, 401), same(1, 401), same(16, 401), append(same(0, 400), 1), same(0, 1<<16)} {
		refuses(t, l, api.ErrArg)
	}
}

func TestTooManyCodes(t *testing.T) {
	for _, l := range [][]int{
		{1, 1, 1}, {1, 1, 15}, {15, 1, 1}, {1, 0, 2, 2, 15}, stairs(15, 15), stairs(14), same(8, 257), same(1, 400), same(1, 4), append(same(8, 256), 0, 15),
		{1, 2, 2, 2}, {3, 3, 3, 3, 3, 2, 4, 4, 15},
	} {
		refuses(t, l, api.ErrForm)
	}
}

func TestComplete(t *testing.T) {
	for _, l := range [][]int{{1, 1}, {0, 1, 0, 1, 0}, {2, 1, 2}, {2, 2, 2, 2}, stairs(15), same(8, 256), same(9, 512), same(15, 1<<15), append(same(0, 500), 1, 1), {3, 3, 3, 3, 3, 2, 4, 4}} {
		if !huff.Complete(l) {
			t.Error(l, "are not complete")
		}
	}
	for _, l := range [][]int{nil, {}, {0}, {0, 0}, same(0, 1<<15), {1}, {15}, {1, 2}, {2, 2, 2}, stairs(), stairs(15, 15), {1, 1, 1}, {1, 1, 15}, {1, 1, 1, 1}, same(1, 3), same(8, 255), same(8, 257), same(15, 1<<15-1), same(15, 1<<15+1), same(15, 1<<16), same(1, 1<<17+2)} {
		if huff.Complete(l) {
			t.Error(l, "are complete")
		}
	}
}

func TestCompleteAtRandom(t *testing.T) {
	rnd := rand.New(rand.NewSource(511))
	for range 1000 {
		l := complete(rnd, 2+rnd.Intn(100), 15)
		if !huff.Complete(l) {
			t.Fatal(l, "are not complete")
		}
		for _, other := range [][]int{l[1:], append(slices.Clone(l), 15)} {
			if huff.Complete(other) {
				t.Fatal(other, "are complete")
			}
		}
	}
}

// 5.2

func reads(t *testing.T, c *huff.Code, r *bits.Reader, want ...int) {
	t.Helper()
	for i, symbol := range want {
		if s, e := c.Read(r); s != symbol || e != api.OK {
			t.Fatalf("symbol %d: %d %d, not %d", i, s, e, symbol)
		}
	}
}

func readsNot(t *testing.T, lengths []int, text string, want api.Errno) {
	t.Helper()
	c, e := huff.New(lengths)
	if e != api.OK {
		t.Fatal(lengths, e)
	}
	if s, e := c.Read(readerOf(text)); s != 0 || e != want {
		t.Errorf("%v: %s: %d %d, not %d", lengths, text, s, e, want)
	}
}

func codeOf(t *testing.T, lengths ...int) *huff.Code {
	t.Helper()
	c, e := huff.New(lengths)
	if e != api.OK {
		t.Fatal(lengths, e)
	}
	return c
}

func TestReadSymbols(t *testing.T) {
	c := codeOf(t, 2, 1, 3, 3)
	r := readerOf("110" + "10" + "0" + "111" + "0" + "0")
	reads(t, c, r, 2, 0, 1, 3, 1, 1)
	if rest := left(r); rest != "" {
		t.Error(rest)
	}
	r = readerOf("111" + "01")
	reads(t, c, r, 3)
	if rest := left(r); rest != "01" {
		t.Error("left:", rest)
	}
	reads(t, codeOf(t, 0, 0, 1), readerOf("000"), 2, 2, 2)
	reads(t, codeOf(t, stairs(15)...), readerOf("111111111111111"+"0"+"111111111111110"+"11111111111110"), 15, 0, 14, 13)
}

func TestReadTorn(t *testing.T) {
	for _, x := range []struct {
		lengths []int
		text    string
	}{
		{[]int{1}, ""}, {[]int{1, 1}, ""}, {[]int{2, 1, 3, 3}, "1"}, {[]int{2, 1, 3, 3}, "11"}, {[]int{15}, "00000000000000"}, {stairs(15), "11111111111111"},
		{[]int{12, 12}, "00000000000"}, {[]int{1, 3}, "10"}, {[]int{2, 1, 4}, "110"}, {same(9, 300), "10010101"},
	} {
		readsNot(t, x.lengths, x.text, api.ErrTorn)
	}
}

func TestReadNoCode(t *testing.T) {
	for _, x := range []struct {
		lengths []int
		text    string
	}{
		{nil, ""}, {[]int{0, 0}, ""}, {nil, "0"}, {[]int{0}, "11111111"}, {[]int{1}, "1"}, {[]int{1}, "10"}, {[]int{15}, "1"}, {[]int{15}, "000000000000001"}, {[]int{15}, "0000000001"},
		{[]int{15, 15}, "00000000000001"}, {[]int{15, 15, 15}, "000000000000011"}, {[]int{1, 3}, "11"}, {[]int{1, 3}, "101"}, {[]int{2, 1, 4}, "111"}, {[]int{2, 1, 4}, "1101"}, {stairs(), "111111111111111"},
		{same(9, 300), "1001011"}, {same(9, 300), "100101100"}, {[]int{2, 2}, "1"},
	} {
		readsNot(t, x.lengths, x.text, api.ErrForm)
	}
}

func TestReadersOfOneCode(t *testing.T) {
	c := codeOf(t, 2, 1, 3)
	a, b := readerOf("11010"), readerOf("0"+"111")
	reads(t, c, b, 1)
	reads(t, c, a, 2)
	if s, e := c.Read(b); s != 0 || e != api.ErrForm {
		t.Error(s, e)
	}
	reads(t, c, a, 0)
	if s, e := c.Read(a); s != 0 || e != api.ErrTorn {
		t.Error(s, e)
	}
}

// 5.3

func TestCost(t *testing.T) {
	for i, x := range []struct {
		counts, lengths []int
		want            int
	}{
		{nil, nil, 0}, {[]int{1, 2, 3}, []int{4, 5}, 14}, {[]int{4, 5}, []int{1, 2, 3}, 14}, {[]int{7}, nil, 0}, {nil, []int{7}, 0}, {[]int{0, 3, 0}, []int{9, 0, 9}, 0},
		{same(1<<30, 400), same(15, 400), 400 * 15 << 30}, {same(1, 1000), same(2, 999), 1998}, {[]int{-3, 2}, []int{5, 4}, -7}, {[]int{5, 1, 1, 0}, []int{1, 2, 2, 0}, 9}, {[]int{1 << 40}, []int{1 << 20}, 1 << 60},
	} {
		if cost := huff.Cost(x.counts, x.lengths); cost != x.want {
			t.Error(i, cost)
		}
	}
}

func finds(t *testing.T, counts []int, most int, want ...int) {
	t.Helper()
	if l, e := huff.Lengths(counts, most); !slices.Equal(l, want) || e != api.OK {
		t.Errorf("%v, %d: %v %d, not %v", counts, most, l, e, want)
	}
}

func TestLengths(t *testing.T) {
	finds(t, []int{5, 1, 1, 0}, 15, 1, 2, 2, 0)
	finds(t, []int{5, 1, 1, 0}, 2, 1, 2, 2, 0)
	finds(t, []int{1, 0, 9, 4}, 3, 2, 0, 1, 2)
	finds(t, []int{1, 2, 4, 8, 16}, 15, 4, 4, 3, 2, 1)
	finds(t, []int{1, 2, 4, 8, 16}, 3, 3, 3, 3, 3, 1)
	finds(t, []int{16, 1, 8, 2, 4}, 4, 1, 4, 2, 4, 3)
	finds(t, []int{1 << 30, 1 << 30}, 1, 1, 1)
	finds(t, []int{1 << 30, 1, 0, 1}, 15, 1, 2, 0, 2)
	var powers []int
	for i := range 20 {
		powers = append(powers, 1<<i)
	}
	costs(t, powers, 15, leastCost(powers, 15))
	costs(t, powers, 5, leastCost(powers, 5))
}

func TestLengthsOfFewSymbols(t *testing.T) {
	for most := 1; most <= 15; most++ {
		finds(t, nil, most)
		finds(t, []int{}, most)
		finds(t, []int{0}, most, 0)
		finds(t, same(0, 400), most, same(0, 400)...)
		finds(t, []int{1}, most, 1)
		finds(t, []int{0, 1 << 30, 0}, most, 0, 1, 0)
		finds(t, append(same(0, 399), 3), most, append(same(0, 399), 1)...)
		finds(t, []int{3, 0, 1 << 30}, most, 1, 0, 1)
	}
}

func TestLengthsOfAllThatMostAllows(t *testing.T) {
	rnd := rand.New(rand.NewSource(533))
	for most := 1; most <= 8; most++ {
		n := 1 << most
		finds(t, same(7, n), most, same(most, n)...)
		finds(t, same(1<<30, n), most, same(most, n)...)
		counts := make([]int, n)
		for i := range counts {
			counts[i] = 1 + rnd.Intn(1<<30)
		}
		finds(t, counts, most, same(most, n)...)
		finds(t, append(same(0, 400-n), counts...), most, append(same(0, 400-n), same(most, n)...)...)
		isRefused(t, append(counts, 1), most)
		isRefused(t, append([]int{1, 0, 0}, counts...), most)
	}
	for most := 9; most <= 15; most++ {
		l, e := huff.Lengths(same(1<<30, 400), most)
		if e != api.OK {
			t.Fatal(most, e)
		}
		fits(t, same(1<<30, 400), l, most)
		if cost := huff.Cost(same(1<<30, 400), l); cost != (112*8+288*9)<<30 {
			t.Error(most, cost)
		}
	}
}

func isRefused(t *testing.T, counts []int, most int) {
	t.Helper()
	if l, e := huff.Lengths(counts, most); l != nil || e != api.ErrArg {
		t.Errorf("%v, %d: %v %d", counts, most, l, e)
	}
}

func TestLengthsRefused(t *testing.T) {
	for _, most := range []int{0, -1, -15, 16, 17, 31, 32, 64, 65, 1 << 32, 1<<32 + 1, math.MaxInt, math.MinInt, math.MinInt + 1} {
		for _, counts := range [][]int{nil, {}, {0}, {1}, {1, 1}, {5, 1, 1, 0}} {
			isRefused(t, counts, most)
		}
	}
	for _, n := range []int{-1, -1 << 30, 1<<30 + 1, 1 << 31, 1 << 32, 1<<32 + 1, -1 << 32, math.MaxInt, math.MinInt} {
		for _, counts := range [][]int{{n}, {1, n}, {n, 1}, {0, n, 0}, {1, n, 1}} {
			isRefused(t, counts, 15)
			isRefused(t, counts, 2)
		}
	}
	isRefused(t, same(0, 401), 15)
	isRefused(t, same(1, 401), 15)
	isRefused(t, append(same(0, 400), 1), 1)
	isRefused(t, same(0, 1<<16), 15)
	isRefused(t, same(1, 400), 8)
}

// 5.4, and W8

func TestRoundTrip(t *testing.T) {
	rnd := rand.New(rand.NewSource(54))
	for range 500 {
		lengths := valid(rnd)
		if symbols := symbolsOf(lengths); len(symbols) > 0 {
			text := make([]int, rnd.Intn(200))
			for i := range text {
				text[i] = symbols[rnd.Intn(len(symbols))]
			}
			comesBack(t, lengths, text)
		}
	}
}

func symbolsOf(lengths []int) []int {
	var symbols []int
	for symbol, length := range lengths {
		if length > 0 {
			symbols = append(symbols, symbol)
		}
	}
	return symbols
}

func comesBack(t *testing.T, lengths, text []int) {
	t.Helper()
	codes, e := huff.Codes(lengths)
	if e != api.OK {
		t.Fatal(lengths, e)
	}
	var w bits.Writer
	n := 0
	for _, symbol := range text {
		w.Code(codes[symbol], lengths[symbol])
		n += lengths[symbol]
	}
	r := bits.Read(w.Bytes())
	reads(t, codeOf(t, lengths...), r, text...)
	if r.Used() != (n+7)/8 {
		t.Fatal(r.Used(), "bytes used of", n, "bits")
	}
}

// A text comes back by the lengths that are best for it, in as many bits as these cost.
func TestRoundTripOfBestLengths(t *testing.T) {
	rnd := rand.New(rand.NewSource(541))
	for range 300 {
		text := make([]int, 1+rnd.Intn(600))
		symbols := 1 + rnd.Intn(400)
		for i := range text {
			text[i] = min(rnd.Intn(symbols), rnd.Intn(symbols), rnd.Intn(symbols))
		}
		counts := make([]int, symbols)
		for _, symbol := range text {
			counts[symbol]++
		}
		most := 9 + rnd.Intn(7)
		lengths, e := huff.Lengths(counts, most)
		if e != api.OK {
			t.Fatal(counts, most, e)
		}
		fits(t, counts, lengths, most)
		comesBack(t, lengths, text)
	}
}

func TestOftenIsNeverLonger(t *testing.T) {
	rnd := rand.New(rand.NewSource(542))
	for range 300 {
		counts := randomCounts(rnd, 1+rnd.Intn(400), rnd.Intn(2))
		for _, most := range []int{9, 10, 12, 15} {
			l, e := huff.Lengths(counts, most)
			if e != api.OK {
				t.Fatal(counts, most, e)
			}
			fits(t, counts, l, most)
		}
	}
}

// 5.5

// Whatever lengths and counts there are, each call answers, with nothing beside an error.
func TestAnyNumbers(t *testing.T) {
	rnd := rand.New(rand.NewSource(55))
	for range 20000 {
		list := anyNumbers(rnd)
		c, e := huff.Codes(list)
		if e != api.OK && c != nil || e != api.OK && e != api.ErrArg && e != api.ErrForm {
			t.Fatal(list, c, e)
		}
		code, same := huff.New(list)
		if same != e || (code == nil) != (e != api.OK) {
			t.Fatal(list, code, same)
		}
		if code != nil {
			readsToEnd(t, rnd, code, len(list))
		}
		huff.Complete(list)
		huff.Cost(list, anyNumbers(rnd))
		most := rnd.Intn(20) - 2
		l, e := huff.Lengths(list, most)
		if e != api.OK && (l != nil || e != api.ErrArg) || e == api.OK && len(l) != len(list) {
			t.Fatal(list, most, l, e)
		}
	}
}

func anyNumbers(rnd *rand.Rand) []int {
	list := make([]int, rnd.Intn(8)+rnd.Intn(2)*rnd.Intn(410))
	for i := range list {
		switch rnd.Intn(40) {
		case 0:
			list[i] = noLengths[rnd.Intn(len(noLengths))]
		case 1:
			list[i] = int(rnd.Uint64())
		default:
			list[i] = rnd.Intn(16) + rnd.Intn(16)*rnd.Intn(2)
		}
	}
	if rnd.Intn(3) == 0 {
		for i := range list {
			list[i] &= 15
		}
	}
	return list
}

// readsToEnd reads symbols until there is none: not more than there are bits.
func readsToEnd(t *testing.T, rnd *rand.Rand, c *huff.Code, symbols int) {
	t.Helper()
	text := make([]byte, rnd.Intn(10))
	rnd.Read(text)
	r := bits.Read(text)
	for range 8*len(text) + 1 {
		s, e := c.Read(r)
		if e != api.OK {
			if s != 0 || e != api.ErrForm && e != api.ErrTorn {
				t.Fatal(s, e)
			}
			return
		}
		if s < 0 || s >= symbols {
			t.Fatal("symbol", s)
		}
	}
	t.Fatal("more symbols than bits")
}

// guarded is list with spare capacity behind it, and what tells whether the whole is as it was.
func guarded(list ...int) ([]int, func() bool) {
	b := append(slices.Clone(list), 101, 102, 103)
	was := slices.Clone(b)
	return b[:len(list)], func() bool { return slices.Equal(b, was) }
}

func TestArgumentsStay(t *testing.T) {
	lengths, asWas := guarded(3, 1, 0, 3, 2)
	counts, alsoAsWas := guarded(9, 1, 0, 4, 4, 1)
	huff.Codes(lengths)
	huff.Complete(lengths)
	huff.New(lengths)
	huff.Lengths(counts, 3)
	huff.Lengths(counts, 15)
	huff.Cost(counts, lengths)
	if !asWas() || !alsoAsWas() {
		t.Error(lengths, counts)
	}
}

func TestCodeKeepsNoLengths(t *testing.T) {
	lengths := []int{2, 1, 3, 3}
	c, e := huff.New(lengths)
	if e != api.OK {
		t.Fatal(e)
	}
	clear(lengths)
	reads(t, c, readerOf("110"+"10"+"0"+"111"), 2, 0, 1, 3)
}

// spoil writes over a result and its spare capacity.
func spoil[T int | uint32](list []T) {
	list = list[:cap(list)]
	for i := range list {
		list[i] = 77
	}
}

func TestResultsAreNew(t *testing.T) {
	lengths, counts := []int{2, 1, 3, 3}, []int{5, 1, 1, 0}
	for range 3 {
		codes, _ := huff.Codes(lengths)
		l, _ := huff.Lengths(counts, 15)
		one, _ := huff.Lengths([]int{0, 4}, 15)
		none, _ := huff.Lengths([]int{0, 0}, 15)
		got := fmt.Sprint(codes, l, one, none, lengths, counts)
		if got != "[2 0 6 7] [1 2 2 0] [0 1] [0 0] [2 1 3 3] [5 1 1 0]" {
			t.Fatal(got)
		}
		spoil(codes)
		spoil(l)
		spoil(one)
		spoil(none)
	}
}
