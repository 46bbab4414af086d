package pack_test

import (
	"bytes"
	"compress/zlib"
	"crypto/sha1"
	"encoding/hex"
	"fmt"
	"hash/crc32"
	"math/rand"
	"slices"
	"strings"

	"stemma/api"
	"stemma/delta"
	"stemma/inflate"
	"stemma/pack"
)

var names = map[int]string{api.KCommit: "commit", api.KTree: "tree", api.KBlob: "blob", api.KTag: "tag"}

// The model says the chapter again, word by word: byte after byte, without an index, and by other packages where there are some.

func modelID(kind int, body string) string {
	h := sha1.Sum(fmt.Appendf(nil, "%s %d\x00%s", names[kind], len(body), body))
	return hex.EncodeToString(h[:])
}

func modelHead(kind, size int) string {
	b := []byte{byte(kind*16 + size%16)}
	for size /= 16; size > 0; size /= 128 {
		b[len(b)-1] += 128
		b = append(b, byte(size%128))
	}
	return string(b)
}

// modelBack tries how the numbers that can be written with so many bytes begin.
func modelBack(n int) string {
	first := 0 // the least number with so many bytes
	for size, count := 1, 128; ; size, count = size+1, count*128 {
		if n >= first+count {
			first += count
			continue
		}
		b := make([]byte, size)
		for i, rest := size-1, n-first; i >= 0; i, rest = i-1, rest/128 {
			b[i] = byte(rest % 128)
			if i < size-1 {
				b[i] += 128
			}
		}
		return string(b)
	}
}

// modelRead ends by a panic where there is an error.
func modelRead(b []byte) (l []pack.Raw, id string, e api.Errno) {
	defer func() {
		if x := recover(); x != nil {
			l, id, e = nil, "", x.(api.Errno)
		}
	}()
	fail := func(bad bool, e api.Errno) {
		if bad {
			panic(e)
		}
	}
	fail(len(b) > 1048576, api.ErrBig)
	at := 0
	next := func() int {
		fail(at == len(b), api.ErrTorn)
		at++
		return int(b[at-1])
	}
	for _, want := range []int{'P', 'A', 'C', 'K', 0, 0, 0, 2} {
		fail(next() != want, api.ErrForm)
	}
	n := 0
	for range 4 {
		n = 256*n + next()
	}
	fail(n > 4096, api.ErrBig)
	for range n {
		r := pack.Raw{At: at}
		x := next()
		r.Kind = x / 16 % 8
		fail(r.Kind == 0 || r.Kind == 5, api.ErrForm)
		size, weight, count := float64(x%16), 16.0, 1
		for x >= 128 {
			x = next()
			size += weight * float64(x%128)
			weight *= 128
			count++
		}
		fail(count > 5 || size > 2147483647, api.ErrForm)
		fail(size > 65536, api.ErrBig)
		r.Size = int(size)
		if r.Kind == api.KOfs {
			x := next()
			v, count := float64(x%128), 1
			for x >= 128 {
				x = next()
				v = (v+1)*128 + float64(x%128)
				count++
			}
			fail(count > 5 || v == 0 || v > float64(r.At), api.ErrForm)
			r.Off = r.At - int(v)
		}
		if r.Kind == api.KRef {
			for range 20 {
				r.Base += fmt.Sprintf("%02x", next())
			}
		}
		data, used, e := inflate.Zlib(b[at:], 65536)
		fail(e != api.OK, e)
		fail(len(data) != r.Size, api.ErrForm)
		at += used
		r.Data, r.CRC = data, crc32.ChecksumIEEE(b[r.At:at])
		l = append(l, r)
	}
	digest := sha1.Sum(b[:at])
	for range 20 {
		id += fmt.Sprintf("%02x", next())
	}
	fail(id != hex.EncodeToString(digest[:]), api.ErrSum)
	fail(at < len(b), api.ErrForm)
	return l, id, api.OK
}

// modelState is what became of an entry.
type modelState struct {
	done   bool
	e      api.Errno
	kind   int
	body   string
	id     string
	deltas int
}

func (s *modelState) settle(on *modelState, d []byte) {
	s.done = true
	if on.e != api.OK {
		s.e = on.e
		return
	}
	if on.deltas+1 > 50 {
		s.e = api.ErrForm
		return
	}
	b, e := delta.Apply([]byte(on.body), d, 65536)
	*s = modelState{true, e, on.kind, string(b), modelID(on.kind, string(b)), on.deltas + 1}
}

func modelResolve(l []pack.Raw, get func(id string) (int, []byte, bool)) ([]api.Object, api.Errno) {
	s := make([]modelState, len(l))
	for i, r := range l {
		if r.Kind != api.KOfs && r.Kind != api.KRef {
			s[i] = modelState{true, api.OK, r.Kind, string(r.Data), modelID(r.Kind, string(r.Data)), 0}
		}
	}
	asked := map[string]*modelState{}
	for again := true; again; {
		again = modelPass(l, s) || modelAsk(l, s, get, asked)
	}
	var out []api.Object
	for i, x := range s {
		if !x.done {
			return nil, api.ErrNone
		}
		if x.e != api.OK {
			return nil, x.e
		}
		out = append(out, api.Object{Kind: x.kind, Body: []byte(x.body), ID: x.id, At: l[i].At, CRC: l[i].CRC})
	}
	return out, api.OK
}

func modelPass(l []pack.Raw, s []modelState) bool {
	some := false
	for i, r := range l {
		if s[i].done {
			continue
		}
		var on *modelState
		if r.Kind == api.KOfs {
			j := slices.IndexFunc(l[:i], func(x pack.Raw) bool { return x.At == r.Off })
			if j < 0 {
				on = &modelState{done: true, e: api.ErrForm}
			} else if s[j].done {
				on = &s[j]
			}
		} else if j := slices.IndexFunc(s, func(x modelState) bool { return x.done && x.e == api.OK && x.id == r.Base }); j >= 0 {
			on = &s[j]
		}
		if on != nil {
			s[i].settle(on, r.Data)
			some = true
		}
	}
	return some
}

func modelAsk(l []pack.Raw, s []modelState, get func(id string) (int, []byte, bool), asked map[string]*modelState) bool {
	for i, r := range l {
		if s[i].done || r.Kind != api.KRef || get == nil {
			continue
		}
		if asked[r.Base] == nil {
			kind, body, ok := get(r.Base)
			ok = ok && names[kind] != "" && modelID(kind, string(body)) == r.Base
			asked[r.Base] = &modelState{done: ok, kind: kind, body: string(body)}
		}
		if asked[r.Base].done {
			s[i].settle(asked[r.Base], r.Data)
			return true
		}
	}
	return false
}

// modelOrder puts what comes first where nothing ahead of it would have to come later.
func modelOrder(l []api.Object) []api.Object {
	place := map[int]string{api.KCommit: "1", api.KTag: "2", api.KTree: "3", api.KBlob: "4"}
	key := func(o api.Object) string { return (place[o.Kind] + "5")[:1] + o.ID }
	var out []api.Object
	for _, o := range l {
		if slices.ContainsFunc(out, func(x api.Object) bool { return x.ID == o.ID }) {
			continue
		}
		at := 0
		for at < len(out) && key(out[at]) < key(o) {
			at++
		}
		out = slices.Insert(out, at, o)
	}
	return out
}

// The rest makes inputs.

func obj(kind int, body string) api.Object {
	return api.Object{Kind: kind, Body: []byte(body), ID: modelID(kind, body)}
}

// zip compresses by another package than the one in use.
func zip(text string) string {
	var b bytes.Buffer
	w := zlib.NewWriter(&b)
	w.Write([]byte(text))
	w.Close()
	return b.String()
}

// stored is a text in the zlib format as it is, in blocks of at most so many bytes.
func stored(text string, most int) string {
	b := "\x78\x01"
	a, c := 1, 0
	for i := range len(text) {
		a = (a + int(text[i])) % 65521
		c = (c + a) % 65521
	}
	for {
		n := min(most, len(text))
		last := byte(0)
		if n == len(text) {
			last = 1
		}
		b += string([]byte{last, byte(n), byte(n >> 8), ^byte(n), ^byte(n >> 8)}) + text[:n]
		text = text[n:]
		if last == 1 {
			return b + string([]byte{byte(c >> 8), byte(c), byte(a >> 8), byte(a)})
		}
	}
}

// packed is a pack of entries that are written already.
func packed(entries ...string) string {
	n := len(entries)
	return summed("PACK\x00\x00\x00\x02" + string([]byte{0, 0, byte(n >> 8), byte(n)}) + strings.Join(entries, ""))
}

// summed adds the digest.
func summed(b string) string {
	h := sha1.Sum([]byte(b))
	return b + string(h[:])
}

func plain(kind int, body string) string {
	return modelHead(kind, len(body)) + zip(body)
}

func ofs(back int, d string) string {
	return modelHead(api.KOfs, len(d)) + modelBack(back) + zip(d)
}

func ref(id, d string) string {
	b, err := hex.DecodeString(id)
	if err != nil {
		panic(err)
	}
	return modelHead(api.KRef, len(d)) + string(b) + zip(d)
}

// change is a delta.
func change(from, to string) string {
	return string(delta.Make([]byte(from), []byte(to)))
}

// noise is a text in which nothing repeats itself.
func noise(rnd *rand.Rand, n int) string {
	b := make([]byte, n)
	rnd.Read(b)
	return string(b)
}

// few is a text of few different bytes.
func few(rnd *rand.Rand, n, letters int) string {
	b := make([]byte, n)
	for i := range b {
		b[i] = byte('a' + rnd.Intn(letters))
	}
	return string(b)
}

func lines(from, to int) string {
	var b strings.Builder
	for i := from; i <= to; i++ {
		fmt.Fprintf(&b, "line %d of a text\n", i)
	}
	return b.String()
}

func hexOf(s string) string {
	return hex.EncodeToString([]byte(s))
}
