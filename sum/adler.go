package sum

const adlerPrime = 65521

// adler is an Adler-32 in progress, as the chapter writes it.
type adler struct{ a, c uint32 }

func newAdler() *adler {
	return &adler{a: 1}
}

func (s *adler) write(b []byte) {
	a, c := s.a, s.c
	for _, x := range b {
		a = (a + uint32(x)) % adlerPrime
		c = (c + a) % adlerPrime
	}
	s.a, s.c = a, c
}

func (s *adler) value() uint32 {
	return s.c<<16 | s.a
}

func (s *adler) sum() []byte {
	return addWord(nil, s.value())
}
