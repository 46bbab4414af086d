package sum

const (
	blockSize  = 64
	lengthAt   = 56 // where the text's length stands in the last block
	digestSize = 20
	words      = 80
	ofKind     = 20 // steps of a kind that follow one another
)

// sha is a SHA-1 digest in progress. The first length % blockSize bytes of block wait until it is full.
type sha struct {
	chain  [5]uint32
	block  [blockSize]byte
	length uint64
}

func newSHA() *sha {
	return &sha{chain: [5]uint32{0x67452301, 0xefcdab89, 0x98badcfe, 0x10325476, 0xc3d2e1f0}}
}

func (s *sha) write(b []byte) {
	for len(b) > 0 {
		n := copy(s.block[s.length%blockSize:], b)
		b = b[n:]
		s.length += uint64(n)
		if s.length%blockSize == 0 {
			s.mix()
		}
	}
}

// sum ends a copy of the text, since the text itself may go on.
func (s *sha) sum() []byte {
	ended := *s
	ended.end()
	b := make([]byte, 0, digestSize)
	for _, w := range ended.chain {
		b = addWord(b, w)
	}
	return b
}

// end fills up the last block: a bit, zeros, and how many bits the text has.
func (s *sha) end() {
	bits := s.length * 8
	b := make([]byte, 1+(lengthAt-1-s.length)%blockSize) // what wraps round below zero has the same remainder
	b[0] = 0x80
	b = addWord(b, uint32(bits>>32))
	b = addWord(b, uint32(bits))
	s.write(b)
}

// mix takes the full block into the chain.
func (s *sha) mix() {
	text := schedule(&s.block)
	a, b, c, d, e := s.chain[0], s.chain[1], s.chain[2], s.chain[3], s.chain[4]
	for i, step := range steps() {
		for _, w := range text[i*ofKind : (i+1)*ofKind] {
			a, b, c, d, e = rotate(a, 5)+step(b, c, d)+e+w, a, rotate(b, 30), c, d
		}
	}
	s.chain[0] += a
	s.chain[1] += b
	s.chain[2] += c
	s.chain[3] += d
	s.chain[4] += e
}

// schedule tells a word of the text for each step.
func schedule(block *[blockSize]byte) [words]uint32 {
	var w [words]uint32
	for i := range blockSize / 4 {
		at := block[4*i : 4*i+4]
		w[i] = uint32(at[0])<<24 | uint32(at[1])<<16 | uint32(at[2])<<8 | uint32(at[3])
	}
	for i := blockSize / 4; i < words; i++ {
		w[i] = rotate(w[i-3]^w[i-8]^w[i-14]^w[i-16], 1)
	}
	return w
}

// steps tells the kinds of steps in their order.
func steps() [words / ofKind]func(b, c, d uint32) uint32 {
	return [...]func(b, c, d uint32) uint32{choice, parity, majority, lastParity}
}

// Each kind adds the constant of its steps, by which the two parities differ.

func choice(b, c, d uint32) uint32 {
	return (b&c | ^b&d) + 0x5a827999
}

func parity(b, c, d uint32) uint32 {
	return (b ^ c ^ d) + 0x6ed9eba1
}

func majority(b, c, d uint32) uint32 {
	return (b&c | b&d | c&d) + 0x8f1bbcdc
}

func lastParity(b, c, d uint32) uint32 {
	return (b ^ c ^ d) + 0xca62c1d6
}

func rotate(w uint32, by uint) uint32 {
	return w<<by | w>>(32-by)
}
