package inflate_test

import (
	"bytes"
	"compress/zlib"
	"encoding/binary"
	"hash/adler32"
	"io"
	"math"
	"math/rand"
	"slices"
	"strings"
	"testing"

	"stemma/api"
	"stemma/inflate"
)

const plenty = 1 << 17

func gives(t *testing.T, b []byte, most int, want string, used int) {
	t.Helper()
	if out, n, e := inflate.Raw(b, most); string(out) != want || n != used || e != api.OK {
		t.Errorf("%.40x, %d: %d bytes (%.40q), %d used, error %d; not %d bytes (%.40q), %d used", b, most, len(out), out, n, e, len(want), want, used)
	}
}

func isRefused(t *testing.T, b []byte, most int, want api.Errno) {
	t.Helper()
	if out, n, e := inflate.Raw(b, most); out != nil || n != 0 || e != want {
		t.Errorf("%.40x, %d: %d bytes, %d used, error %d; not error %d", b, most, len(out), n, e, want)
	}
}

// decodes holds a whole stream of digits to its result, and each piece of it and each lower bound to their errors.
func decodes(t *testing.T, digits, want string) {
	t.Helper()
	b := packed(digits)
	gives(t, b, plenty, want, len(b))
	gives(t, b, len(want), want, len(b))
	gives(t, append(slices.Clone(b), 0, 1, 2, 255), len(want), want, len(b))
	for n := range min(len(b), 300) {
		isRefused(t, b[:n], plenty, api.ErrTorn)
	}
	if len(want) > 0 {
		for _, most := range []int{0, -1, math.MinInt, 1, len(want) / 2, len(want) - 1} {
			if most < len(want) {
				isRefused(t, b, most, api.ErrBig)
			}
		}
	}
}

// fails holds a tail, behind which nothing follows, to its error; and each piece of it to being torn.
func fails(t *testing.T, tail string, want api.Errno) {
	t.Helper()
	failsIn(t, plenty, tail, want)
}

// failsIn has room for so many bytes.
func failsIn(t *testing.T, room int, tail string, want api.Errno) {
	t.Helper()
	b, before := endingWith(tail)
	isRefused(t, b, before+room, want)
	for n := range len(tail) {
		b, before := endingWith(tail[:n])
		isRefused(t, b, before+room, api.ErrTorn)
	}
}

// failsInBytes is for stored blocks, which begin with a whole byte.
func failsInBytes(t *testing.T, room int, b []byte, want api.Errno) {
	t.Helper()
	isRefused(t, b, room, want)
	for n := range b {
		isRefused(t, b[:n], room, api.ErrTorn)
	}
}

// 6.1

func TestExamples(t *testing.T) {
	gives(t, []byte("\x03\x00"), 10, "", 2)
	gives(t, []byte("\x01\x02\x00\xfd\xffab"), 10, "ab", 7)
	isRefused(t, []byte{7}, 10, api.ErrForm)
	isRefused(t, []byte("\x01\x02\x00\xfd"), 10, api.ErrTorn)
	unpacks(t, []byte("\x78\x01\x01\x00\x00\xff\xff\x00\x00\x00\x01"), 10, "", 11)
}

func TestStored(t *testing.T) {
	decodes(t, stored("", 1, ""), "")
	decodes(t, stored("", 1, "\x00\xff\x01"), "\x00\xff\x01")
	decodes(t, stored(stored("", 0, "ab"), 1, "cd"), "abcd")
	decodes(t, stored(stored(stored("", 0, ""), 0, "x"), 1, ""), "x")
	long := strings.Repeat("0123456789abcdef", 4096)[1:]
	decodes(t, stored("", 1, long), long)
	decodes(t, stored(stored("", 0, long), 1, "end"), long+"end")
	for n := range 9 { // of all places in a byte, the rest of which is skipped
		text := strings.Repeat("\xfe", n)
		decodes(t, stored(fixedHead(0)+fixedLiterals(text)+fixedEnd, 1, "ab"), text+"ab")
	}
}

func TestStoredLengths(t *testing.T) {
	for _, size := range []int{0, 1, 2, 255, 256, 1 << 15, 1<<16 - 1} {
		head := aligned("100") + number(size, 16)
		for i := range 16 {
			failsInBytes(t, plenty, packed(head+number(^size^1<<i, 16)), api.ErrForm)
		}
		for _, other := range []int{size, -size, 0x1234} {
			failsInBytes(t, plenty, packed(head+number(other, 16)), api.ErrForm)
		}
	}
}

func TestFixedLiterals(t *testing.T) {
	decodes(t, fixedHead(1)+fixedEnd, "")
	all := make([]byte, 256)
	for i := range all {
		all[i] = byte(i)
	}
	decodes(t, fixedHead(1)+fixedLiterals(string(all))+fixedEnd, string(all))
	decodes(t, fixedHead(0)+fixedLiterals("a")+fixedEnd+fixedHead(0)+fixedEnd+fixedHead(1)+fixedLiterals("\xff")+fixedEnd, "a\xff")
}

func TestAllLengths(t *testing.T) {
	for length := 3; length <= 258; length++ {
		decodes(t, fixedHead(1)+fixedLiterals("ab")+fixedMatch(length, 2)+fixedEnd, strings.Repeat("ab", 130)[:2+length])
	}
	// the greatest length also has the longest extra bits of the symbol before its own
	decodes(t, fixedHead(1)+fixedLiterals("ab")+fixedSymbol(284)+"11111"+fixedDistance(1)+fixedEnd, strings.Repeat("ab", 130))
}

func TestAllDistances(t *testing.T) {
	rnd := rand.New(rand.NewSource(612))
	text := make([]byte, 32768)
	rnd.Read(text)
	before := stored("", 0, string(text))
	for d, first := range distanceFirst {
		for _, more := range []int{0, 1, 1<<distanceExtra[d] - 1, rnd.Intn(1 << distanceExtra[d])} {
			distance := first + more%(1<<distanceExtra[d])
			b := packed(before + fixedHead(1) + fixedMatch(3, distance) + fixedEnd)
			want := string(text)
			for range 3 {
				want += want[len(want)-distance:][:1]
			}
			gives(t, b, len(want), want, len(b))
		}
	}
}

func TestMatches(t *testing.T) {
	a := fixedHead(1) + fixedLiterals("a")
	decodes(t, a+fixedMatch(3, 1)+fixedEnd, "aaaa")
	decodes(t, a+fixedMatch(258, 1)+fixedMatch(258, 258)+fixedMatch(4, 517)+fixedEnd, strings.Repeat("a", 521))
	decodes(t, fixedHead(1)+fixedLiterals("abcd")+fixedMatch(10, 4)+fixedMatch(3, 14)+fixedLiterals("x")+fixedMatch(4, 3)+fixedEnd, "abcdabcdabcdababcxbcxb")
	decodes(t, stored("", 0, "abc")+fixedHead(0)+fixedMatch(3, 3)+fixedEnd+fixedHead(1)+fixedMatch(3, 5)+fixedEnd, "abcabcbca")
}

// dynamicText begins a block with codes of its own: 2 digits for a, b and the length 258, 3 for the end and the length 3, and 1 for each of the distances 1 and 2.
func dynamicText(last int) (digits string, literals, distances coding) {
	l := with(286, map[int]int{'a': 2, 'b': 2, 256: 3, 257: 3, 285: 2})
	d := []int{1, 1}
	return headOf(last, l, d).digits(), codingOf(l), codingOf(d)
}

func TestDynamic(t *testing.T) {
	s, l, d := dynamicText(1)
	decodes(t, s+l[256], "")
	decodes(t, s+l['a']+l['b']+l[257]+d[1]+l['b']+l[256], "ababab")
	decodes(t, s+l['a']+l[285]+d[0]+l[257]+d[1]+l[256], strings.Repeat("a", 262))
	next, l2, d2 := dynamicText(0)
	decodes(t, fixedHead(0)+fixedLiterals("ab")+fixedEnd+next+l2[257]+d2[1]+l2[256]+s+l[257]+d[0]+l[256], "ababaaaa")
	decodes(t, stored(next+l2['b']+l2[256], 1, "xy"), "bxy")
}

// All symbols that there may be have codes: 286 of one kind, 30 of the other.
func TestDynamicOfAllSymbols(t *testing.T) {
	rnd := rand.New(rand.NewSource(613))
	for range 20 {
		literals, distances := complete(rnd, 286, 15), complete(rnd, 30, 15)
		l, d := codingOf(literals), codingOf(distances)
		s := headOf(1, literals, distances).digits()
		want := ""
		for i := range 256 {
			s += l[i]
			want += string([]byte{byte(i)})
		}
		for symbol, first := range lengthFirst {
			far := symbol % 15
			s += l[257+symbol] + number(0, lengthExtra[symbol]) + d[far] + number(0, distanceExtra[far])
			for range first {
				want += want[len(want)-distanceFirst[far]:][:1]
			}
		}
		gives(t, packed(s+l[256]), plenty, want, (len(s+l[256])+7)/8)
	}
}

// few is a code of code lengths in which the heads of small codes are written.
func few() []int {
	return with(19, map[int]int{0: 2, 1: 3, 2: 3, 16: 3, 17: 3, 18: 2})
}

// zeros writes so many lengths of 0, at least 11.
func zeros(n int) []run {
	var runs []run
	for n > 0 {
		took := n
		if n > 138 {
			took = min(138, n-11)
		}
		runs = append(runs, run{18, took - 11})
		n -= took
	}
	return runs
}

// runsOf writes 257 lengths, those of the literal a and the end with 1, and then the lengths of distances.
func runsOf(distances ...int) []run {
	return slices.Concat(zeros('a'), plainRuns(1), zeros(255-'a'), plainRuns(1), plainRuns(distances...))
}

// aa is a, a and the end with the codes of runsOf.
const aa = "001"

func TestRuns(t *testing.T) {
	for _, runs := range [][]run{
		runsOf(0),
		{{17, 0}, {17, 7}, {17, 4}, {18, 0}, {18, 66 - 11}, {1, 0}, {18, 138 - 11}, {18, 20 - 11}, {1, 0}, {0, 0}},
		{{0, 0}, {16, 0}, {16, 3}, {16, 1}, {18, 83 - 11}, {1, 0}, {17, 7}, {16, 3}, {18, 138 - 11}, {17, 1}, {1, 0}, {0, 0}},
	} {
		decodes(t, head{1, 257, 1, 19, few(), runs}.digits()+aa, "aa")
	}
}

// A run that begins among the literals may end among the distances, and the last one may end with the last length.
func TestRunsAcross(t *testing.T) {
	twos := head{1, 258, 4, 19, few(), append(zeros(254), run{2, 0}, run{16, 1}, run{16, 0})}
	decodes(t, twos.digits()+"00"+"01"+"11"+"01"+"10", "\xfe\xff\xfe\xff\xfe")
	for _, h := range []head{
		{1, 286, 30, 19, few(), append(runsOf(), run{18, 59 - 11})},
		{1, 257, 10, 19, few(), append(runsOf(), run{17, 7})},
		{1, 257, 8, 19, few(), append(runsOf(0, 0), run{16, 3})},
	} {
		decodes(t, h.digits()+aa, "aa")
	}
}

// Where fewer lengths of the code of code lengths are written than there are, the last ones of the order are 0.
func TestOrderedLengths(t *testing.T) {
	for length := 1; length <= 7; length++ {
		n := 1 << length // codes, of the symbols up to the end
		runs := append(zeros(257-n), plainRuns(slices.Repeat([]int{length}, n)...)...)
		runs = append(runs, zeros(11)...)
		first, last := strings.Repeat("0", length), strings.Repeat("1", length)
		for ordered := slices.Index(lengthOrder, length) + 1; ordered <= 19; ordered++ {
			h := head{1, 257, 11, ordered, with(19, map[int]int{length: 1, 18: 1}), runs}
			decodes(t, h.digits()+first+last, string([]byte{byte(257 - n)}))
		}
	}
}

func TestCodesOfDistances(t *testing.T) {
	for _, distances := range [][]int{{0}, {0, 0, 0}, make([]int, 30), {1}, {0, 0, 1, 0}, with(30, map[int]int{29: 1}), {1, 1}, {0, 1, 0, 1}, {2, 1, 2}, {2, 2, 2, 2}, {1, 2, 3, 3}} {
		h := headOf(1, with(257, map[int]int{'a': 1, 256: 1}), distances)
		decodes(t, h.digits()+aa, "aa")
	}
	for _, distances := range [][]int{{2}, {15}, {0, 2}, {1, 2}, {2, 1}, {2, 2}, {2, 2, 2}, {15, 15}, {1, 1, 1}, {1, 1, 15}, {2, 2, 2, 2, 2}, slices.Repeat([]int{5}, 30), slices.Repeat([]int{4}, 17)} {
		h := headOf(1, with(257, map[int]int{'a': 1, 256: 1}), distances)
		fails(t, h.digits(), api.ErrForm)
	}
}

func TestOneDistance(t *testing.T) {
	h := headOf(1, with(258, map[int]int{'a': 1, 256: 2, 257: 2}), []int{0, 1})
	decodes(t, h.digits()+"0"+"0"+"11"+"0"+"10", "aaaaa")
	fails(t, h.digits()+"0"+"0"+"11"+"1", api.ErrForm)
}

// Without a code no bit is needed to see that there is none.
func TestNoDistance(t *testing.T) {
	h := headOf(1, with(266, map[int]int{'a': 1, 256: 2, 265: 2}), []int{0, 0})
	decodes(t, h.digits()+"0"+"0"+"10", "aa")
	fails(t, h.digits()+"0"+"0"+"11"+"1", api.ErrForm)
}

func TestCodesOfLiterals(t *testing.T) {
	for _, literals := range []map[int]int{
		{256: 1}, {256: 15}, {256: 1, 0: 2}, {256: 2, 0: 2, 1: 2}, {256: 1, 0: 1, 1: 1}, {256: 15, 0: 1, 1: 1}, {256: 15, 0: 1},
		{0: 1, 1: 1}, {}, {255: 1}, {0: 1}, {0: 1, 257: 1}, {0: 1, 1: 1, 257: 1},
	} {
		for _, distances := range [][]int{{0}, {1, 1}, {1, 1, 1}} {
			fails(t, headOf(1, with(258, literals), distances).digits(), api.ErrForm)
		}
	}
	decodes(t, headOf(1, with(257, map[int]int{256: 1, 0: 1}), []int{0}).digits()+"01", "\x00")
}

func TestCodesOfCodeLengths(t *testing.T) {
	for _, first := range []map[int]int{{}, {0: 1}, {18: 1}, {18: 7}, {0: 1, 18: 2}, {0: 2, 1: 2, 18: 2}, {0: 1, 1: 1, 18: 1}, {0: 1, 1: 1, 15: 7}, {16: 1, 17: 1, 18: 1}} {
		h := head{last: 1, literals: 257, distances: 1, ordered: 19, first: with(19, first)}
		fails(t, h.digits(), api.ErrForm)
	}
	for ordered := 4; ordered < 18; ordered++ { // the code of the length 1 is not written
		h := head{last: 1, literals: 257, distances: 1, ordered: ordered, first: with(19, map[int]int{18: 1, 1: 1})}
		fails(t, h.digits(), api.ErrForm)
	}
}

func TestNumbersOfCodes(t *testing.T) {
	for _, literals := range []int{287, 288} {
		for _, distances := range []int{1, 30, 31, 32} {
			h := head{last: 1, literals: literals, distances: distances}
			fails(t, h.counts()[:8], api.ErrForm)
			isRefused(t, packed(h.counts()), plenty, api.ErrForm)
		}
	}
	for _, distances := range []int{31, 32} {
		for _, literals := range []int{257, 286} {
			fails(t, head{last: 1, literals: literals, distances: distances}.counts(), api.ErrForm)
		}
	}
	for _, literals := range []int{257, 286} {
		for _, distances := range []int{1, 30} {
			l := with(literals, map[int]int{'a': 1, 256: 1})
			decodes(t, headOf(1, l, make([]int, distances)).digits()+aa, "aa")
		}
	}
}

func TestRunsBeyondTheLast(t *testing.T) {
	for symbol, least := range leastOfRun {
		for more := range 1 << extraOfRun[symbol] {
			for _, distances := range []int{1, 9, 30} {
				h := head{1, 257, distances, 19, few(), append(runsOf(), run{symbol, more})}
				if least+more > distances {
					fails(t, h.digits(), api.ErrForm)
				} else if least+more == distances && symbol != 16 {
					decodes(t, h.digits()+aa, "aa")
				}
			}
		}
	}
}

func TestRunOfNothing(t *testing.T) {
	for more := range 4 {
		fails(t, head{1, 257, 1, 19, few(), []run{{16, more}}}.digits(), api.ErrForm)
	}
}

func TestDistancesTooFar(t *testing.T) {
	text := strings.Repeat("0123456789", 10)
	for distance := 108; distance <= 32768; distance += 1 + distance/3 {
		fails(t, fixedHead(1)+fixedLiterals(text)+fixedMatch(3, distance), api.ErrForm)
	}
	for n := range 40 {
		b := packed(stored("", 0, text[:n]) + fixedHead(1) + fixedMatch(3, n+1) + fixedEnd)
		isRefused(t, b, plenty, api.ErrForm)
	}
	fails(t, fixedHead(1)+fixedMatch(3, 32768), api.ErrForm)
}

func TestSymbolsThatNoBlockMayHave(t *testing.T) {
	for room := range 2 {
		for _, symbol := range []int{286, 287} {
			failsIn(t, room+1, fixedHead(1)+fixedLiterals("a")+fixedSymbol(symbol), api.ErrForm)
			failsIn(t, room, fixedHead(1)+fixedSymbol(symbol), api.ErrForm)
		}
		for _, far := range []int{30, 31} {
			failsIn(t, room+1, fixedHead(1)+fixedLiterals("a")+fixedSymbol(257)+fixedDistance(far), api.ErrForm)
		}
	}
}

// What lies behind the last block is not heeded: neither bytes, nor the rest of a byte.
func TestUsed(t *testing.T) {
	for n := range 20 {
		text := strings.Repeat("\xff", n) // of 9 digits each
		digits := fixedHead(1) + fixedLiterals(text) + fixedEnd
		b := packed(aligned(digits))
		gives(t, b, n, text, len(b))
		gives(t, append(b, b...), n, text, len(b))
		gives(t, append(b, 255, 255), n, text, len(b))
	}
}

// 6.2

func TestTypeIsCheckedFirst(t *testing.T) {
	fails(t, "011", api.ErrForm)
	fails(t, "111", api.ErrForm)
	for x := range 256 {
		kind, more := x>>1&3, x>>3
		if kind == 3 || kind == 2 && more >= 30 { // too many literals are seen as soon
			isRefused(t, []byte{byte(x)}, 0, api.ErrForm)
		} else {
			isRefused(t, []byte{byte(x)}, 0, api.ErrTorn)
		}
	}
}

func TestStoredBytesOneByOne(t *testing.T) {
	const text = "abcdef"
	b := packed(stored("", 1, text))
	for room := range text {
		for n := range b {
			want := api.ErrTorn
			if n > 5+room {
				want = api.ErrBig
			}
			isRefused(t, b[:n], room, want)
		}
		isRefused(t, b, room, api.ErrBig)
	}
}

// Lengths of a code that is wrong at once are all read before they are checked.
func TestHeadIsCheckedAfterReading(t *testing.T) {
	h := head{last: 1, literals: 257, distances: 1, ordered: 19, first: slices.Repeat([]int{1}, 19)}
	fails(t, h.digits(), api.ErrForm)
	fails(t, headOf(1, slices.Repeat([]int{1}, 286), slices.Repeat([]int{1}, 30)).digits(), api.ErrForm)
}

func TestLiteralIsReadThenMost(t *testing.T) {
	for _, text := range []string{"a", "\xff"} {
		failsIn(t, 0, fixedHead(1)+fixedLiterals(text), api.ErrBig)
		failsIn(t, 1, fixedHead(1)+fixedLiterals("x"+text), api.ErrBig)
	}
}

func TestMatchIsReadThenDistanceThenMost(t *testing.T) {
	a := fixedHead(1) + fixedLiterals("0123456789")
	for _, length := range []int{3, 4, 11, 12, 257, 258} {
		for _, distance := range []int{1, 3, 5, 10} {
			for _, room := range []int{10, 11, 9 + length} {
				failsIn(t, room, a+fixedMatch(length, distance), api.ErrBig)
			}
		}
		for _, distance := range []int{18, 100, 32768} {
			for _, room := range []int{10, 9 + length, 10 + length} {
				failsIn(t, room, a+fixedMatch(length, distance), api.ErrForm)
			}
		}
		b, before := endingWith(a + fixedMatch(length, 10) + fixedEnd)
		out, _, e := inflate.Raw(b, before+10+length)
		if len(out) != before+10+length || e != api.OK {
			t.Error(length, len(out), e)
		}
	}
}

// The first error from the left is the one that counts, also across blocks.
func TestFirstErrorFromTheLeft(t *testing.T) {
	for i, x := range []struct {
		digits string
		most   int
		want   api.Errno
	}{
		{stored("", 0, "ab") + "111", 1, api.ErrBig}, {stored("", 0, "ab") + "111", 2, api.ErrForm},
		{fixedHead(0) + fixedEnd + "111", 0, api.ErrForm}, {fixedHead(0) + fixedLiterals("a") + fixedEnd + "111", 0, api.ErrBig},
		{fixedHead(0) + fixedLiterals("a") + fixedSymbol(286), 1, api.ErrForm}, {fixedHead(0) + fixedLiterals("ab") + fixedSymbol(286), 1, api.ErrBig},
		{aligned("000") + number(1, 16) + number(1, 16), 0, api.ErrForm}, {stored("", 0, "a")[:40], 0, api.ErrTorn},
	} {
		isRefused(t, packed(x.digits), x.most, x.want)
		if t.Failed() {
			t.Fatal(i)
		}
	}
}

// 6.3

func unpacks(t *testing.T, b []byte, most int, want string, used int) {
	t.Helper()
	if out, n, e := inflate.Zlib(b, most); string(out) != want || n != used || e != api.OK {
		t.Errorf("%.40x, %d: %d bytes (%.40q), %d used, error %d; not %d bytes (%.40q), %d used", b, most, len(out), out, n, e, len(want), want, used)
	}
}

func isNotUnpacked(t *testing.T, b []byte, most int, want api.Errno) {
	t.Helper()
	if out, n, e := inflate.Zlib(b, most); out != nil || n != 0 || e != want {
		t.Errorf("%.40x, %d: %d bytes, %d used, error %d; not error %d", b, most, len(out), n, e, want)
	}
}

// framed puts blocks between a head and the checksum of text.
func framed(head string, digits, text string) []byte {
	b := append([]byte(head), packed(digits)...)
	return binary.BigEndian.AppendUint32(b, adler32.Checksum([]byte(text)))
}

func TestZlib(t *testing.T) {
	for _, text := range []string{"", "a", "\xff\x00\xff", strings.Repeat("long ", 3000)} {
		for _, head := range []string{"\x78\x01", "\x78\x5e", "\x78\x9c", "\x78\xda", "\x08\x1d", "\x18\x19"} {
			b := framed(head, fixedHead(1)+fixedLiterals(text)+fixedEnd, text)
			unpacks(t, b, plenty, text, len(b))
			unpacks(t, append(b, "\x00more"...), len(text), text, len(b))
			for n := range min(len(b), 100) {
				isNotUnpacked(t, b[:n], plenty, api.ErrTorn)
				isNotUnpacked(t, b[:len(b)-1-n], plenty, api.ErrTorn)
			}
			if len(text) > 0 {
				isNotUnpacked(t, b, len(text)-1, api.ErrBig)
				isNotUnpacked(t, b, -1, api.ErrBig)
			}
		}
	}
}

func TestAllHeads(t *testing.T) {
	for first := range 256 {
		for second := range 256 {
			good := first%16 == 8 && first/16 < 8 && (first*256+second)%31 == 0 && second&32 == 0
			head := string([]byte{byte(first), byte(second)})
			if good {
				unpacks(t, framed(head, fixedHead(1)+fixedLiterals("ab")+fixedEnd, "ab"), 2, "ab", 10)
				isNotUnpacked(t, []byte(head), 2, api.ErrTorn)
				continue
			}
			isNotUnpacked(t, framed(head, fixedHead(1)+fixedLiterals("ab")+fixedEnd, "ab"), 2, api.ErrForm)
			isNotUnpacked(t, []byte(head), 2, api.ErrForm)
		}
		isNotUnpacked(t, []byte{byte(first)}, 2, api.ErrTorn)
	}
	isNotUnpacked(t, nil, 2, api.ErrTorn)
}

func TestZlibHasTheErrorsOfRaw(t *testing.T) {
	for i, x := range []struct {
		digits string
		most   int
		want   api.Errno
	}{
		{"111", 9, api.ErrForm}, {stored("", 1, "ab"), 1, api.ErrBig}, {stored("", 0, "ab"), 9, api.ErrTorn}, {fixedHead(1) + fixedLiterals("a") + fixedMatch(3, 2), 9, api.ErrForm}, {fixedHead(1) + fixedSymbol(286), 9, api.ErrForm},
	} {
		isNotUnpacked(t, append([]byte("\x78\x01"), packed(x.digits)...), x.most, x.want)
		if t.Failed() {
			t.Fatal(i)
		}
	}
}

func TestZlibChecksItsSum(t *testing.T) {
	const text = "some text \xff\xfe"
	b := framed("\x78\x9c", fixedHead(1)+fixedLiterals(text)+fixedEnd, text)
	for i := range 32 {
		other := bytes.Clone(b)
		other[len(b)-4+i/8] ^= 1 << (i % 8)
		isNotUnpacked(t, other, plenty, api.ErrSum)
		isNotUnpacked(t, append(other, b[len(b)-4:]...), plenty, api.ErrSum)
	}
	turned := binary.LittleEndian.AppendUint32(b[:len(b)-4:len(b)-4], adler32.Checksum([]byte(text)))
	isNotUnpacked(t, turned, plenty, api.ErrSum)
	isNotUnpacked(t, append([]byte("\x78\x9c"), packed(stored("", 1, ""))...), plenty, api.ErrTorn)
	isNotUnpacked(t, append([]byte("\x78\x9c"), append(packed(stored("", 1, "")), 0, 0, 0, 0)...), plenty, api.ErrSum)
}

func TestZlibOfTheLibrary(t *testing.T) {
	rnd := rand.New(rand.NewSource(63))
	for _, text := range texts(rnd) {
		for _, level := range levels {
			var buffer bytes.Buffer
			w, _ := zlib.NewWriterLevel(&buffer, level)
			io.WriteString(w, text)
			w.Close()
			b := buffer.Bytes()
			unpacks(t, append(b, "more"...), len(text), text, len(b))
			isNotUnpacked(t, b[:rnd.Intn(len(b))], len(text), api.ErrTorn)
		}
	}
}

// 6.4

func TestResultsAreBounded(t *testing.T) {
	long := fixedHead(1) + fixedLiterals("a") + strings.Repeat(fixedMatch(258, 1), 5000) + fixedEnd
	want := strings.Repeat("a", 1+258*5000)
	b := packed(long)
	gives(t, b, len(want), want, len(b))
	for _, most := range []int{0, 1, 258, 259, 65536, len(want) - 1} {
		isRefused(t, b, most, api.ErrBig)
	}
	gives(t, b, math.MaxInt, want, len(b))
	isRefused(t, b, math.MinInt, api.ErrBig)
}

func TestZlibOfAnyBytes(t *testing.T) {
	rnd := rand.New(rand.NewSource(641))
	seen := map[api.Errno]int{}
	for range 6000 {
		k := &maker{rnd: rnd}
		k.block(1)
		b := framed("\x78\x9c", k.digits, "")
		b = flipped(rnd, b)[:rnd.Intn(len(b)+1)]
		most := rnd.Intn(200)
		out, used, e := inflate.Zlib(b, most)
		if len(out) > most || used > len(b) || e != api.OK && (out != nil || used != 0) {
			t.Fatalf("%x, %d: %x %d %d", b, most, out, used, e)
		}
		seen[e]++
	}
	for _, e := range []api.Errno{api.OK, api.ErrForm, api.ErrTorn, api.ErrBig, api.ErrSum} {
		if seen[e] == 0 {
			t.Error("none with the error", e, seen)
		}
	}
}

// 6.5

// There may be many blocks that have nothing.
func TestManyEmptyBlocks(t *testing.T) {
	empty := packed(strings.Repeat(fixedHead(0)+fixedEnd, 4))
	b := append(bytes.Repeat(empty, 50000), 3, 0)
	gives(t, b, 0, "", len(b))
	isRefused(t, b[:len(b)-2], 0, api.ErrTorn)
	b = append(bytes.Repeat([]byte("\x00\x00\x00\xff\xff"), 50000), 3, 0)
	gives(t, b, 0, "", len(b))
}

func TestNothingPanics(t *testing.T) {
	for _, b := range [][]byte{nil, {}, {0}, {5}, bytes.Repeat([]byte{0}, 1000), bytes.Repeat([]byte{0xff}, 1000), bytes.Repeat([]byte{5}, 1000)} {
		for _, most := range []int{math.MinInt, -1, 0, 1, math.MaxInt} {
			out, used, e := inflate.Raw(b, most)
			if out != nil || used != 0 || e == api.OK {
				t.Error(len(b), most, out, used, e)
			}
			out, used, e = inflate.Zlib(b, most)
			if out != nil || used != 0 || e == api.OK {
				t.Error(len(b), most, out, used, e)
			}
		}
	}
}

func TestArgumentsStay(t *testing.T) {
	text := strings.Repeat("text ", 100)
	blocks := packed(stored("", 0, "ab") + fixedHead(1) + fixedLiterals(text) + fixedMatch(258, 7) + fixedEnd)
	for _, b := range [][]byte{blocks, framed("\x78\x9c", unpacked(blocks), "")} {
		buffer := append(append(make([]byte, 0, len(b)+50), b...), "spare capacity"...)
		was := bytes.Clone(buffer)
		inflate.Raw(buffer[:len(b)], plenty)
		inflate.Zlib(buffer[:len(b)], plenty)
		if !bytes.Equal(buffer, was) {
			t.Error("an argument has changed")
		}
	}
}

func TestResultsAreNew(t *testing.T) {
	b := framed("\x78\x9c", stored("", 0, "text")+fixedHead(1)+fixedMatch(4, 4)+fixedEnd, "texttext")
	was := bytes.Clone(b)
	first, _, _ := inflate.Zlib(b, plenty)
	second, _, _ := inflate.Raw(b[2:], plenty)
	spoil(first)
	if string(second) != "texttext" || !bytes.Equal(b, was) {
		t.Error(second, b)
	}
	spoil(b)
	if string(second) != "texttext" {
		t.Error(second)
	}
}

// spoil writes over a result and its spare capacity.
func spoil(b []byte) {
	b = b[:cap(b)]
	for i := range b {
		b[i] ^= 0xa5
	}
}
