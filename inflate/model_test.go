package inflate_test

import (
	"bytes"
	"compress/flate"
	"io"
	"math"
	"math/rand"
	"slices"
	"strings"
	"testing"

	"stemma/api"
	"stemma/inflate"
)

// model reads a text of digits by the words of 6.2, one after the other. It panics with an error.
type model struct {
	digits string
	at     int
	out    []byte
	most   int
}

func (m *model) need(ok bool, e api.Errno) {
	if !ok {
		panic(e)
	}
}

func (m *model) digit() string {
	m.need(m.at < len(m.digits), api.ErrTorn)
	m.at++
	return m.digits[m.at-1 : m.at]
}

func (m *model) number(n int) int {
	v := 0
	for i := range n {
		if m.digit() == "1" {
			v += 1 << i
		}
	}
	return v
}

func (m *model) align() {
	m.at = (m.at + 7) / 8 * 8
}

// lookup tells the symbol of each code; and what begins a code, without being one.
type lookup struct {
	symbols map[string]int
	begun   map[string]bool
}

func lookupOf(lengths []int) lookup {
	l := lookup{map[string]int{}, map[string]bool{}}
	for symbol, code := range codingOf(lengths) {
		l.symbols[code] = symbol
		for n := range code {
			l.begun[code[:n]] = true
		}
	}
	return l
}

func (m *model) symbol(l lookup) int {
	code := ""
	for {
		if symbol, ok := l.symbols[code]; ok {
			return symbol
		}
		m.need(l.begun[code], api.ErrForm)
		code += m.digit()
	}
}

func (m *model) blocks() {
	for {
		last := m.number(1)
		switch m.number(2) {
		case 0:
			m.stored()
		case 1:
			m.coded(fixedModel, fixedDistances)
		case 2:
			m.coded(m.head())
		case 3:
			panic(api.ErrForm)
		}
		if last == 1 {
			return
		}
	}
}

func (m *model) stored() {
	m.align()
	size, complement := m.number(16), m.number(16)
	m.need(size+complement == 1<<16-1 && size&complement == 0, api.ErrForm)
	for range size {
		m.put(byte(m.number(8)))
	}
}

var (
	fixedModel     = lookupOf(slices.Concat(slices.Repeat([]int{8}, 144), slices.Repeat([]int{9}, 112), slices.Repeat([]int{7}, 24), slices.Repeat([]int{8}, 8)))
	fixedDistances = lookupOf(slices.Repeat([]int{5}, 32))
)

func share(lengths []int) float64 {
	sum := 0.0
	for _, length := range lengths {
		if length > 0 {
			sum += math.Pow(2, -float64(length))
		}
	}
	return sum
}

func (m *model) head() (literals, distances lookup) {
	nLiterals := m.number(5) + 257
	m.need(nLiterals <= 286, api.ErrForm)
	nDistances := m.number(5) + 1
	m.need(nDistances <= 30, api.ErrForm)
	first := make([]int, 19)
	for _, symbol := range lengthOrder[:m.number(4)+4] {
		first[symbol] = m.number(3)
	}
	m.need(share(first) == 1, api.ErrForm)
	lengths := m.lengths(lookupOf(first), nLiterals+nDistances)
	m.need(lengths[256] > 0, api.ErrForm)
	m.need(share(lengths[:nLiterals]) == 1, api.ErrForm)
	far := lengths[nLiterals:]
	coded := slices.DeleteFunc(slices.Clone(far), func(length int) bool { return length == 0 })
	m.need(share(far) == 1 || len(coded) == 0 || len(coded) == 1 && coded[0] == 1, api.ErrForm)
	return lookupOf(lengths[:nLiterals]), lookupOf(far)
}

func (m *model) lengths(first lookup, n int) []int {
	var lengths []int
	for len(lengths) < n {
		symbol := m.symbol(first)
		times := 1
		if least, ok := leastOfRun[symbol]; ok {
			times = least + m.number(extraOfRun[symbol])
		}
		switch symbol {
		case 16:
			m.need(len(lengths) > 0, api.ErrForm)
			symbol = lengths[len(lengths)-1]
		case 17, 18:
			symbol = 0
		}
		for range times {
			lengths = append(lengths, symbol)
		}
		m.need(len(lengths) <= n, api.ErrForm)
	}
	return lengths
}

func (m *model) coded(literals, distances lookup) {
	for {
		symbol := m.symbol(literals)
		if symbol == 256 {
			return
		}
		if symbol < 256 {
			m.put(byte(symbol))
			continue
		}
		m.need(symbol <= 285, api.ErrForm)
		length := lengthFirst[symbol-257] + m.number(lengthExtra[symbol-257])
		far := m.symbol(distances)
		m.need(far <= 29, api.ErrForm)
		distance := distanceFirst[far] + m.number(distanceExtra[far])
		m.need(distance <= len(m.out), api.ErrForm)
		m.need(len(m.out)+length <= m.most, api.ErrBig)
		for range length {
			m.out = append(m.out, m.out[len(m.out)-distance])
		}
	}
}

func (m *model) put(x byte) {
	m.need(len(m.out) < m.most, api.ErrBig)
	m.out = append(m.out, x)
}

func modelled(b []byte, most int) (out []byte, used int, e api.Errno) {
	m := &model{digits: unpacked(b), most: most}
	defer func() {
		if x := recover(); x != nil {
			out, used, e = nil, 0, x.(api.Errno)
		}
	}()
	m.blocks()
	return m.out, (m.at + 7) / 8, api.OK
}

// asModelled holds Raw against the model, and what it decompresses against the library, which says nothing of errors.
func asModelled(t *testing.T, b []byte, most int) api.Errno {
	t.Helper()
	out, used, e := inflate.Raw(b, most)
	want, wantUsed, wantE := modelled(b, most)
	if !bytes.Equal(out, want) || used != wantUsed || e != wantE {
		t.Fatalf("%x, %d: %x %d %d, not %x %d %d", b, most, out, used, e, want, wantUsed, wantE)
	}
	if e != api.OK {
		return e
	}
	known, err := io.ReadAll(flate.NewReader(bytes.NewReader(b[:used])))
	if err != nil || !bytes.Equal(known, out) {
		t.Fatalf("%x: %x, not %x %v", b, out, known, err)
	}
	return e
}

// maker makes random streams. It keeps what they decompress to, so that matches are seldom too far.
type maker struct {
	rnd    *rand.Rand
	digits string
	made   int
}

func (k *maker) block(last int) {
	switch k.rnd.Intn(4) {
	case 0:
		k.stored(last)
	case 1:
		k.digits += fixedHead(last)
		k.coded(codingOf(slices.Concat(slices.Repeat([]int{8}, 144), slices.Repeat([]int{9}, 112), slices.Repeat([]int{7}, 24), slices.Repeat([]int{8}, 8))), codingOf(slices.Repeat([]int{5}, 32)))
	default:
		literals, distances := k.literalLengths(), k.distanceLengths()
		k.digits += k.head(last, literals, distances)
		k.coded(codingOf(literals), codingOf(distances))
	}
}

func (k *maker) stored(last int) {
	text := make([]byte, k.rnd.Intn(20))
	k.rnd.Read(text)
	k.digits = stored(k.digits, last, string(text))
	k.made += len(text)
}

func (k *maker) literalLengths() []int {
	n := 257 + k.rnd.Intn(30)
	lengths := complete(k.rnd, 2+k.rnd.Intn(1+k.rnd.Intn(n-1)), 15)
	return spread(k.rnd, n, lengths, 256)
}

func (k *maker) distanceLengths() []int {
	n := 1 + k.rnd.Intn(30)
	switch kind := k.rnd.Intn(6); {
	case kind == 0:
		return make([]int, n)
	case kind == 1 || n == 1:
		return spread(k.rnd, n, []int{1})
	}
	return spread(k.rnd, n, complete(k.rnd, 2+k.rnd.Intn(n-1), 15))
}

// head writes lengths in random runs, in a random code of code lengths that has a code for each of them.
func (k *maker) head(last int, literals, distances []int) string {
	h := head{last: last, literals: len(literals), distances: len(distances), runs: k.runs(slices.Concat(literals, distances))}
	var needed []int
	for _, r := range h.runs {
		if !slices.Contains(needed, r.symbol) {
			needed = append(needed, r.symbol)
		}
	}
	codes := max(2, len(needed))
	codes += k.rnd.Intn(20 - codes)
	h.first = spread(k.rnd, 19, complete(k.rnd, codes, 7), needed...)
	for i, symbol := range lengthOrder {
		if h.first[symbol] > 0 {
			h.ordered = max(4, i+1)
		}
	}
	h.ordered += k.rnd.Intn(20 - h.ordered)
	return h.digits()
}

func (k *maker) runs(lengths []int) []run {
	var runs []run
	for i := 0; i < len(lengths); {
		n := 1
		for i+n < len(lengths) && lengths[i+n] == lengths[i] {
			n++
		}
		r, took := k.run(lengths[i], i > 0 && lengths[i-1] == lengths[i], n)
		runs = append(runs, r)
		i += took
	}
	return runs
}

// run writes some of n equal lengths.
func (k *maker) run(length int, again bool, n int) (run, int) {
	var can []int
	for symbol, least := range leastOfRun {
		if n >= least && (symbol == 16 && again || symbol > 16 && length == 0) {
			can = append(can, symbol)
		}
	}
	slices.Sort(can)
	if len(can) == 0 || k.rnd.Intn(9) == 0 {
		return run{length, 0}, 1
	}
	symbol := can[k.rnd.Intn(len(can))]
	took := min(n, leastOfRun[symbol]+k.rnd.Intn(1<<extraOfRun[symbol]))
	return run{symbol, took - leastOfRun[symbol]}, took
}

func (k *maker) coded(literals, distances coding) {
	symbols := symbolsOf(literals)
	far := symbolsOf(distances)
	for range k.rnd.Intn(40) {
		symbol := symbols[k.rnd.Intn(len(symbols))]
		switch {
		case symbol == 256:
		case symbol < 256:
			k.digits += literals[symbol]
			k.made++
		case len(far) > 0:
			k.match(symbol, literals[symbol], far[k.rnd.Intn(len(far))], distances)
		}
	}
	k.digits += literals[256]
}

// match leaves out most of what no block may have.
func (k *maker) match(symbol int, code string, far int, distances coding) {
	wrong := symbol > 285 || far > 29 || distanceFirst[far] > k.made
	if wrong && k.rnd.Intn(60) > 0 {
		return
	}
	k.digits += code
	if symbol <= 285 {
		more := k.rnd.Intn(1 << lengthExtra[symbol-257])
		k.digits += number(more, lengthExtra[symbol-257])
		k.made += lengthFirst[symbol-257] + more
	}
	k.digits += distances[far]
	if far <= 29 {
		more := k.rnd.Intn(1 << distanceExtra[far])
		if room := k.made - distanceFirst[far]; !wrong && k.rnd.Intn(60) > 0 {
			more = min(more, max(0, room-258))
		}
		k.digits += number(more, distanceExtra[far])
	}
}

func symbolsOf(c coding) []int {
	var symbols []int
	for symbol := range c {
		symbols = append(symbols, symbol)
	}
	slices.Sort(symbols)
	return symbols
}

func randomStream(rnd *rand.Rand) []byte {
	k := &maker{rnd: rnd}
	for range rnd.Intn(4) {
		k.block(0)
	}
	k.block(1)
	return packed(k.digits)
}

// 6.1, 6.2, 6.4, W9: every stream, cut anywhere, with other bits or other bounds, is what the model says.
func TestRawAsTheModel(t *testing.T) {
	rnd := rand.New(rand.NewSource(61))
	seen := map[api.Errno]int{}
	for range 400 {
		b := randomStream(rnd)
		seen[asModelled(t, b, 1<<16)]++
		out, _, e := inflate.Raw(b, 1<<16)
		for range 4 {
			cut := b[:rnd.Intn(len(b)+1)]
			seen[asModelled(t, b, rnd.Intn(len(out)+2))]++
			seen[asModelled(t, cut, 1<<16)]++
			seen[asModelled(t, cut, rnd.Intn(len(out)+2))]++
			asModelled(t, append(slices.Clone(b), byte(rnd.Intn(256)), 7), len(out))
		}
		if e == api.OK {
			asModelled(t, b, len(out))
			asModelled(t, b, len(out)-1)
		}
		for range 20 {
			seen[asModelled(t, flipped(rnd, b), 1<<16)]++
		}
	}
	for _, e := range []api.Errno{api.OK, api.ErrTorn, api.ErrForm, api.ErrBig} {
		if seen[e] < 1000 {
			t.Error("few streams with the error", e, seen)
		}
	}
}

func flipped(rnd *rand.Rand, b []byte) []byte {
	c := slices.Clone(b)
	for range 1 + rnd.Intn(2) {
		c[rnd.Intn(len(c))] ^= 1 << rnd.Intn(8)
	}
	return c
}

// 6.4: whatever the bytes are.
func TestAnyBytesAsTheModel(t *testing.T) {
	rnd := rand.New(rand.NewSource(64))
	for v := range 1 << 16 {
		asModelled(t, []byte{byte(v), byte(v >> 8)}, 1)
	}
	for v := range 1 << 8 {
		asModelled(t, []byte{byte(v)}, 1)
	}
	for range 20000 {
		b := make([]byte, rnd.Intn(60))
		rnd.Read(b)
		asModelled(t, b, rnd.Intn(300))
	}
}

// 6.1: what another program compresses comes back, whatever its blocks are.
func TestRawOfTheLibrary(t *testing.T) {
	rnd := rand.New(rand.NewSource(611))
	for _, text := range texts(rnd) {
		for _, level := range levels {
			b := compressed(rnd, text, level)
			gives(t, append(b, "more"...), len(text), text, len(b))
			if len(text) > 0 {
				isRefused(t, b, len(text)-1, api.ErrBig)
			}
			isRefused(t, b[:rnd.Intn(len(b))], len(text), api.ErrTorn)
		}
	}
}

func texts(rnd *rand.Rand) []string {
	list := []string{"", "a", "aaaa", strings.Repeat("a", 70000), strings.Repeat("abc", 1000), "It was the best of times, it was the worst of times."}
	for _, letters := range []int{2, 7, 256} {
		for _, n := range []int{10, 300, 20000} {
			list = append(list, randomText(rnd, n, letters))
		}
	}
	far := randomText(rnd, 400, 256)
	return append(list, far+randomText(rnd, 32000, 2)+far, randomText(rnd, 70000, 256))
}

func randomText(rnd *rand.Rand, n, letters int) string {
	b := make([]byte, n)
	for i := range b {
		b[i] = byte(rnd.Intn(letters))
	}
	return string(b)
}

// levels are those of the library: Huffman codes alone, stored, fast, good.
var levels = []int{flate.HuffmanOnly, 0, 1, 6, 9}

// compressed may be flushed in between, which ends a block.
func compressed(rnd *rand.Rand, text string, level int) []byte {
	var b bytes.Buffer
	w, err := flate.NewWriter(&b, level)
	if err != nil {
		panic(err)
	}
	cut := rnd.Intn(len(text) + 1)
	w.Write([]byte(text[:cut]))
	if rnd.Intn(2) == 0 {
		w.Flush()
	}
	w.Write([]byte(text[cut:]))
	w.Close()
	return b.Bytes()
}
