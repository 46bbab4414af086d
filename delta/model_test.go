package delta_test

import (
	"bytes"
	"encoding/binary"
	"fmt"
	"math"
	"math/bits"
	"math/rand"
	"strconv"

	"stemma/api"
)

// modelSizes is Sizes as the chapter's words have it: the digits of both numbers are had first, then examined.
func modelSizes(d string) (sizes [2]int, rest string, e api.Errno) {
	var digits [2]string
	for i := range digits {
		for last := false; !last; d = d[1:] {
			if d == "" {
				return sizes, "", api.ErrTorn
			}
			digits[i] = fmt.Sprintf("%07b", d[0]%128) + digits[i]
			last = d[0] < 128
		}
	}
	for i, s := range digits {
		n, err := strconv.ParseInt(s, 2, 64)
		if len(s) > 5*7 || err != nil || n > math.MaxInt32 {
			return [2]int{}, "", api.ErrForm
		}
		sizes[i] = int(n)
	}
	return sizes, d, api.OK
}

// modelApply is Apply, with its instructions on texts.
func modelApply(base, d string, most int) (string, api.Errno) {
	sizes, d, e := modelSizes(d)
	if e != api.OK {
		return "", e
	}
	if sizes[0] != len(base) {
		return "", api.ErrForm
	}
	if sizes[1] > most && sizes[1] > 0 {
		return "", api.ErrBig
	}
	var out []byte
	for d != "" {
		var piece string
		if d[0] < 128 {
			piece, d, e = modelInsert(d, sizes[1]-len(out))
		} else {
			piece, d, e = modelCopy(d, base)
		}
		if e != api.OK {
			return "", e
		}
		if out = append(out, piece...); len(out) > sizes[1] {
			return "", api.ErrForm
		}
	}
	if len(out) < sizes[1] {
		return "", api.ErrForm
	}
	return string(out), api.OK
}

func modelInsert(d string, room int) (piece, rest string, e api.Errno) {
	n := int(d[0])
	if n == 0 || n > room {
		return "", "", api.ErrForm
	}
	if len(d) <= n {
		return "", "", api.ErrTorn
	}
	return d[1 : n+1], d[n+1:], api.OK
}

func modelCopy(d, base string) (piece, rest string, e api.Errno) {
	follow := 1 + bits.OnesCount8(d[0]&0x7f)
	if len(d) < follow {
		return "", "", api.ErrTorn
	}
	var b [8]byte // four of the offset, four of the length
	for i, k := 0, 1; i < 7; i++ {
		if d[0]>>i&1 == 1 {
			b[i] = d[k]
			k++
		}
	}
	at, n := int64(binary.LittleEndian.Uint32(b[:])), int64(binary.LittleEndian.Uint32(b[4:]))
	if n == 0 {
		n = 65536
	}
	if at+n > int64(len(base)) {
		return "", "", api.ErrForm
	}
	return base[at : at+n], d[follow:], api.OK
}

// head is what a delta begins with.
func head(from, to int) string {
	return string(binary.AppendUvarint(binary.AppendUvarint(nil, uint64(from)), uint64(to)))
}

// mended has a text cut, lengthened and changed at every place.
func mended(s string) []string {
	l := []string{s}
	for at := range s {
		l = append(l, s[:at], s[at:], s[:at]+s[at+1:], s[:at]+s[at:at+1]+s[at:], s[:at]+"\x00"+s[at:], s[:at]+"\x80"+s[at:])
		for x := range 256 {
			l = append(l, s[:at]+string([]byte{byte(x)})+s[at+1:])
		}
	}
	for x := range 256 {
		l = append(l, s+string([]byte{byte(x)}))
	}
	return l
}

func noise(rnd *rand.Rand, n int) string {
	b := make([]byte, n)
	rnd.Read(b)
	return string(b)
}

// few has only some of the bytes.
func few(rnd *rand.Rand, n, kinds int) string {
	b := make([]byte, n)
	for i := range b {
		b[i] = byte(rnd.Intn(kinds))
	}
	return string(b)
}

func lines(from, to int) string {
	var b bytes.Buffer
	for i := from; i < to; i++ {
		fmt.Fprintf(&b, "line %d\n", i)
	}
	return b.String()
}

// patched has pieces of a text in another order, with some bytes between them.
func patched(rnd *rand.Rand, s string) string {
	var b []byte
	for range 1 + rnd.Intn(12) {
		at := rnd.Intn(len(s) + 1)
		b = append(b, s[at:at+rnd.Intn(min(len(s)-at, 1<<rnd.Intn(18))+1)]...)
		b = append(b, noise(rnd, rnd.Intn(1<<rnd.Intn(9)))...)
	}
	return string(b)
}
