package idx_test

import (
	"bytes"
	"crypto/sha1"
	"encoding/binary"
	"encoding/hex"
	"fmt"
	"math/rand"
	"slices"
	"strings"

	"stemma/api"
)

// The model says the chapter again, word by word: by counting and by other packages, without an order of search.

// parts are those of an index, right or wrong.
type parts struct {
	head    string
	counts  []uint32
	ids     []string // in digits
	crcs    []uint32
	offsets []uint32
	fars    []uint64
	pack    string // in digits
}

func modelParts(l []api.Object, pack string) parts {
	l = slices.Clone(l)
	slices.SortFunc(l, func(a, b api.Object) int { return strings.Compare(a.ID, b.ID) })
	p := parts{head: "\xff\x74\x4f\x63\x00\x00\x00\x02", pack: pack}
	for i := range 256 {
		n := 0
		for _, o := range l {
			if o.ID[:2] <= fmt.Sprintf("%02x", i) {
				n++
			}
		}
		p.counts = append(p.counts, uint32(n))
	}
	for _, o := range l {
		p.ids = append(p.ids, o.ID)
		p.crcs = append(p.crcs, o.CRC)
		if o.At < 2147483648 {
			p.offsets = append(p.offsets, uint32(o.At))
		} else {
			p.offsets = append(p.offsets, uint32(2147483648+len(p.fars)))
			p.fars = append(p.fars, uint64(o.At))
		}
	}
	return p
}

// bytes is what the parts are, with the digest that they have.
func (p parts) bytes() []byte {
	var b bytes.Buffer
	b.WriteString(p.head)
	write := func(a any) { binary.Write(&b, binary.BigEndian, a) }
	write(p.counts)
	for _, id := range p.ids {
		write(digits(id))
	}
	write(p.crcs)
	write(p.offsets)
	write(p.fars)
	write(digits(p.pack))
	return sealed(b.Bytes())
}

func digits(s string) []byte {
	b, err := hex.DecodeString(s)
	if err != nil {
		panic(err)
	}
	return b
}

// sealed adds the digest.
func sealed(b []byte) []byte {
	h := sha1.Sum(b)
	return slices.Concat(b, h[:])
}

// resealed has the digest that belongs to what stands before it.
func resealed(b []byte) []byte {
	return sealed(b[:len(b)-20])
}

func modelBuild(l []api.Object, pack string) []byte {
	return modelParts(l, pack).bytes()
}

func modelParse(b []byte) ([]api.Object, string, api.Errno) {
	if len(b) < 8+1024+40 {
		return nil, "", api.ErrTorn
	}
	word := func(at int) int { return int(binary.BigEndian.Uint32(b[at:])) }
	if string(b[:4]) != "\xfftOc" || word(4) != 2 {
		return nil, "", api.ErrForm
	}
	n := 0
	for i := range 256 {
		if word(8+4*i) < n {
			return nil, "", api.ErrForm
		}
		n = word(8 + 4*i)
	}
	if n > 4096 || len(b) < 8+1024+28*n+40 || (len(b)-8-1024-28*n-40)%8 != 0 {
		return nil, "", api.ErrForm
	}
	var l []api.Object
	used := 0
	counts := make([]int, 256)
	for i := range n {
		o := api.Object{ID: hex.EncodeToString(b[1032+20*i : 1052+20*i]), CRC: binary.BigEndian.Uint32(b[1032+20*n+4*i:]), At: word(1032 + 24*n + 4*i)}
		if i > 0 && o.ID <= l[i-1].ID {
			return nil, "", api.ErrForm
		}
		for first := int(b[1032+20*i]); first < 256; first++ {
			counts[first]++
		}
		if o.At >= 2147483648 {
			if o.At != 2147483648+used || 1032+28*n+8*used+8 > len(b)-40 {
				return nil, "", api.ErrForm
			}
			at := binary.BigEndian.Uint64(b[1032+28*n+8*used:])
			if at < 2147483648 || at > 4611686018427387904 {
				return nil, "", api.ErrForm
			}
			o.At = int(at)
			used++
		}
		l = append(l, o)
	}
	for i := range 256 {
		if counts[i] != word(8+4*i) {
			return nil, "", api.ErrForm
		}
	}
	if len(b) != 8+1024+28*n+8*used+40 {
		return nil, "", api.ErrForm
	}
	if h := sha1.Sum(b[:len(b)-20]); string(h[:]) != string(b[len(b)-20:]) {
		return nil, "", api.ErrSum
	}
	return l, hex.EncodeToString(b[len(b)-40 : len(b)-20]), api.OK
}

func modelFind(b []byte, id string) (int, bool) {
	l, _, _ := modelParse(b)
	for _, o := range l {
		if o.ID == id {
			return o.At, true
		}
	}
	return 0, false
}

// The rest makes inputs.

const packID = "00112233445566778899aabbccddeeff01234567"

// id is one that begins with this byte and ends with this number.
func id(first, n int) string {
	return fmt.Sprintf("%02x%038x", first, n)
}

// sample has offsets at all bounds, several IDs of a first byte, the first byte of all and the last, and no order.
func sample() []api.Object {
	return []api.Object{
		{ID: strings.Repeat("f", 40), CRC: 0x80000000, At: 1 << 31},
		{ID: id(0x7f, 3), CRC: 3, At: 1<<31 - 1},
		{ID: id(0x80, 1), CRC: 0xffffffff, At: 1<<62 - 1},
		{ID: id(0x80, 0), CRC: 0x01020304, At: 12},
		{ID: id(0x7f, 1), CRC: 0, At: 1 << 32},
		{ID: id(0x7f, 2), CRC: 0xf0e0d0c0, At: 0x01020304},
		{ID: strings.Repeat("0", 40), CRC: 7, At: 1 << 62},
		{ID: id(0xff, 0), CRC: 1, At: 0},
		{ID: id(0, 1), CRC: 2, At: 0x0102030405060708},
		{ID: id(0x41, 9), CRC: 2, At: 1<<31 + 1},
	}
}

// many are n objects, of which one in several is far.
func many(rnd *rand.Rand, n, firsts int) []api.Object {
	var l []api.Object
	seen := map[string]bool{}
	for len(l) < n {
		hash := make([]byte, 20)
		rnd.Read(hash)
		hash[0] = byte(rnd.Intn(firsts) * (256 / firsts))
		o := api.Object{ID: hex.EncodeToString(hash), CRC: rnd.Uint32(), At: rnd.Intn(1 << 31)}
		if rnd.Intn(5) == 0 {
			o.At = 1<<31 + rnd.Intn(1<<62-1<<31+1)
		}
		if !seen[o.ID] {
			seen[o.ID] = true
			l = append(l, o)
		}
	}
	return l
}
