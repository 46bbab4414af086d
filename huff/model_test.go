package huff_test

import (
	"cmp"
	"math/rand"
	"slices"
	"strings"
	"testing"

	"stemma/api"
	"stemma/bits"
	"stemma/huff"
)

// texts has the code of each symbol as a text of the digits 0 and 1; a symbol without a code has none.
type texts map[int]string

// textsOf counts the codes up, from the shortest to the longest.
func textsOf(lengths []int) texts {
	var order []int
	for symbol, length := range lengths {
		if length > 0 {
			order = append(order, symbol)
		}
	}
	slices.SortStableFunc(order, func(a, b int) int { return cmp.Compare(lengths[a], lengths[b]) })
	m := texts{}
	code := ""
	for _, symbol := range order {
		if len(m) > 0 {
			code = after(code)
		}
		code += strings.Repeat("0", lengths[symbol]-len(code))
		m[symbol] = code
	}
	return m
}

// after is the number that follows code, in as many digits.
func after(code string) string {
	end := strings.LastIndex(code, "0")
	return code[:end] + "1" + strings.Repeat("0", len(code)-end-1)
}

// read tells what Read answers where the bits that are left are text, and how many of them it takes if there is a symbol.
func (m texts) read(text string) (symbol, took int, e api.Errno) {
	for n := 0; ; n++ {
		goesOn := false
		for symbol, code := range m {
			if code == text[:n] {
				return symbol, n, api.OK
			}
			goesOn = goesOn || strings.HasPrefix(code, text[:n])
		}
		if !goesOn {
			return 0, 0, api.ErrForm
		}
		if n == len(text) {
			return 0, 0, api.ErrTorn
		}
	}
}

// readerOf is a Reader to which exactly the bits of text are left.
func readerOf(text string) *bits.Reader {
	var w bits.Writer
	begun := (8 - len(text)%8) % 8
	w.Put(0x55, begun)
	for _, digit := range text {
		w.Put(uint32(digit-'0'), 1)
	}
	r := bits.Read(w.Bytes())
	r.Take(begun)
	return r
}

func left(r *bits.Reader) string {
	text := ""
	for {
		bit, ok := r.Take(1)
		if !ok {
			return text
		}
		text += string(rune('0' + bit))
	}
}

// valid is a random list of the lengths of a code, which may be complete or not, and of symbols without one.
func valid(rnd *rand.Rand) []int {
	lengths := make([]int, rnd.Intn(12)+rnd.Intn(2)*rnd.Intn(389))
	room := 1 << 15
	least := 1 + rnd.Intn(6)
	for i := range lengths {
		length := least + rnd.Intn(16-least)
		if room >= 1<<(15-length) && rnd.Intn(5) > 0 {
			lengths[i] = length
			room -= 1 << (15 - length)
		}
	}
	rnd.Shuffle(len(lengths), func(i, j int) { lengths[i], lengths[j] = lengths[j], lengths[i] })
	return lengths
}

// complete is a random list of lengths that leave no room, made by splitting codes in two.
func complete(rnd *rand.Rand, symbols, most int) []int {
	lengths := []int{1, 1}
	for len(lengths) < symbols {
		i := rnd.Intn(len(lengths))
		if lengths[i] < most {
			lengths[i]++
			lengths = append(lengths, lengths[i])
		}
	}
	rnd.Shuffle(len(lengths), func(i, j int) { lengths[i], lengths[j] = lengths[j], lengths[i] })
	return lengths
}

func randomText(rnd *rand.Rand, n int) string {
	b := make([]byte, n)
	for i := range b {
		b[i] = byte('0' + rnd.Intn(2))
	}
	return string(b)
}

// 5.1: the codes are those that counting up gives.
func TestCodesAgainstModel(t *testing.T) {
	rnd := rand.New(rand.NewSource(51))
	for range 2000 {
		lengths := valid(rnd)
		codes, e := huff.Codes(lengths)
		if e != api.OK || len(codes) != len(lengths) {
			t.Fatal(lengths, codes, e)
		}
		m := textsOf(lengths)
		for symbol, code := range codes {
			if want := number(m[symbol]); code != want {
				t.Fatalf("%v: %d has %b, not %b", lengths, symbol, code, want)
			}
		}
	}
}

func number(text string) uint32 {
	var v uint32
	for _, digit := range text {
		v = 2*v + uint32(digit-'0')
	}
	return v
}

// 5.2: every text of bits is read as the model reads it, with as many bits left.
func TestReadAgainstModel(t *testing.T) {
	rnd := rand.New(rand.NewSource(52))
	for i := range 3000 {
		lengths := valid(rnd)
		if i%3 == 0 {
			lengths = complete(rnd, 2+rnd.Intn(40), 15)
		}
		c, e := huff.New(lengths)
		if e != api.OK {
			t.Fatal(lengths, e)
		}
		m := textsOf(lengths)
		for range 10 {
			readsLikeModel(t, c, m, startOf(rnd, m, lengths)+randomText(rnd, rnd.Intn(20)))
		}
	}
}

// startOf is a piece of a code, or the whole of it: few random texts come to the end of a long one.
func startOf(rnd *rand.Rand, m texts, lengths []int) string {
	if len(lengths) == 0 {
		return ""
	}
	code := m[rnd.Intn(len(lengths))]
	return code[:rnd.Intn(len(code)+1)]
}

func readsLikeModel(t *testing.T, c *huff.Code, m texts, text string) {
	t.Helper()
	r := readerOf(text)
	for {
		want, took, wantE := m.read(text)
		symbol, e := c.Read(r)
		if symbol != want || e != wantE {
			t.Fatalf("%v: %s: %d %d, not %d %d", m, text, symbol, e, want, wantE)
		}
		if e != api.OK {
			return
		}
		if text = text[took:]; text == "" || len(text)%7 == 0 {
			if rest := left(r); rest != text {
				t.Fatalf("%v: %s is left, not %s", m, rest, text)
			}
			return
		}
	}
}

// 5.2: each text of up to 9 bits, in small codes: where the bits end, and where no code goes on.
func TestReadAllTexts(t *testing.T) {
	for _, lengths := range [][]int{
		nil, {0, 0}, {1}, {0, 1}, {1, 1}, {2}, {2, 2}, {2, 1}, {1, 3}, {2, 1, 4}, {3, 3, 3}, {3, 3, 3, 3}, {2, 2, 2, 3},
		{8}, {7, 7, 7}, {9, 9}, {1, 2, 3, 4, 5, 6, 7, 8, 9}, {1, 2, 3, 4, 5, 6, 7, 8, 9, 9}, {1, 9, 0, 9, 2},
	} {
		c, e := huff.New(lengths)
		if e != api.OK {
			t.Fatal(lengths, e)
		}
		m := textsOf(lengths)
		for n := range 10 {
			for v := range 1 << n {
				readsLikeModel(t, c, m, digits(v, n))
			}
		}
	}
}

func digits(v, n int) string {
	text := ""
	for i := range n {
		text += string(rune('0' + v>>(n-1-i)&1))
	}
	return text
}

// least is the cost of the best code of at most most bits. A level of the code's tree after the other, the symbols that occur most take leaves; all that are left get a bit more.
type least struct {
	counts []int // the greatest first
	rest   []int // sums of the counts from each on
	most   int
	known  map[[3]int]int
}

const impossible = 1 << 60

func leastCost(counts []int, most int) int {
	counts = slices.DeleteFunc(slices.Clone(counts), func(n int) bool { return n == 0 })
	slices.SortFunc(counts, func(a, b int) int { return cmp.Compare(b, a) })
	if len(counts) < 2 {
		return append(counts, 0)[0]
	}
	l := &least{counts, make([]int, len(counts)+1), most, map[[3]int]int{}}
	for i := len(counts) - 1; i >= 0; i-- {
		l.rest[i] = l.rest[i+1] + counts[i]
	}
	return l.from(0, 0, 1)
}

// from has so many symbols placed, and so many open places in this level.
func (l *least) from(level, placed, open int) int {
	if placed == len(l.counts) && open == 0 {
		return 0
	}
	if open == 0 || open > len(l.counts)-placed || level > l.most {
		return impossible
	}
	key := [3]int{level, placed, open}
	cost, ok := l.known[key]
	if ok {
		return cost
	}
	cost = impossible
	for leaves := range open + 1 {
		next := placed + leaves
		cost = min(cost, l.rest[next]+l.from(level+1, next, 2*(open-leaves)))
	}
	l.known[key] = cost
	return cost
}

// smallest tries all lengths.
func smallest(counts []int, most int) int {
	best := impossible
	lengths := make([]int, len(counts))
	var try func(i int)
	try = func(i int) {
		if i == len(counts) {
			if shareOf(lengths) == 1<<15 {
				best = min(best, huff.Cost(counts, lengths))
			}
			return
		}
		for lengths[i] = 1; lengths[i] <= most; lengths[i]++ {
			try(i + 1)
		}
	}
	try(0)
	return best
}

func shareOf(lengths []int) int {
	sum := 0
	for _, length := range lengths {
		if length > 0 {
			sum += 1 << (15 - length)
		}
	}
	return sum
}

// 5.3: no lengths cost less: few symbols, against all lengths there are.
func TestLengthsAgainstAll(t *testing.T) {
	rnd := rand.New(rand.NewSource(531))
	for range 400 {
		counts := randomCounts(rnd, 2+rnd.Intn(4), 0)
		for most := 1; most <= 5; most++ {
			if len(counts) <= 1<<most {
				costs(t, counts, most, smallest(counts, most))
			}
		}
	}
}

// 5.3: no lengths cost less: many symbols, also without a count, against the level-wise model.
func TestLengthsAgainstModel(t *testing.T) {
	rnd := rand.New(rand.NewSource(532))
	for range 600 {
		counts := randomCounts(rnd, 1+rnd.Intn(30), rnd.Intn(3))
		for most := 1; most <= 15; most++ {
			if coded(counts) <= 1<<most {
				costs(t, counts, most, leastCost(counts, most))
			}
		}
	}
}

// randomCounts has some zeros if zeros is above 0; the counts are even, or some are much greater than others, or as far apart as Fibonacci's numbers.
func randomCounts(rnd *rand.Rand, n, zeros int) []int {
	counts := make([]int, n)
	kind := rnd.Intn(4)
	a, b := 1, 1
	for i := range counts {
		switch kind {
		case 0:
			counts[i] = 1 + rnd.Intn(4)
		case 1:
			counts[i] = 1 + rnd.Intn(1<<30)
		case 2:
			counts[i] = 1 + rnd.Intn(1<<rnd.Intn(31))
		case 3:
			counts[i] = a
			a, b = b, min(a+b, 1<<30)
		}
		if zeros > 0 && rnd.Intn(4) < zeros {
			counts[i] = 0
		}
	}
	rnd.Shuffle(n, func(i, j int) { counts[i], counts[j] = counts[j], counts[i] })
	return counts
}

func coded(counts []int) int {
	n := 0
	for _, count := range counts {
		if count > 0 {
			n++
		}
	}
	return n
}

func costs(t *testing.T, counts []int, most, want int) {
	t.Helper()
	lengths, e := huff.Lengths(counts, most)
	if e != api.OK {
		t.Fatal(counts, most, e)
	}
	fits(t, counts, lengths, most)
	if cost := huff.Cost(counts, lengths); cost != want {
		t.Fatal(counts, most, lengths, "cost", cost, "not", want)
	}
}

// fits finds what lengths promise of counts, whatever they cost.
func fits(t *testing.T, counts, lengths []int, most int) {
	t.Helper()
	if len(lengths) != len(counts) {
		t.Fatal(len(lengths), "lengths of", len(counts), "counts")
	}
	for i, length := range lengths {
		if (length > 0) != (counts[i] > 0) || length < 0 || length > most {
			t.Fatal(counts, most, lengths)
		}
	}
	if n := coded(counts); n == 1 && slices.Max(lengths) != 1 || n > 1 && shareOf(lengths) != 1<<15 {
		t.Fatal(counts, most, lengths)
	}
	for i, length := range lengths {
		for j, other := range lengths {
			if counts[i] > counts[j] && counts[j] > 0 && length > other {
				t.Fatal(counts, lengths, i, "is longer than", j)
			}
		}
	}
}
