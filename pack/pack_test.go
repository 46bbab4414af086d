package pack_test

import (
	"bytes"
	"math"
	"math/rand"
	"reflect"
	"slices"
	"strings"
	"testing"

	"stemma/api"
	"stemma/pack"
)

// reads holds a Read to be the model's, and to have no error.
func reads(t *testing.T, b string) []pack.Raw {
	t.Helper()
	l, id, e := pack.Read([]byte(b))
	want, wantID, wantE := modelRead([]byte(b))
	if e != api.OK || wantE != api.OK || id != wantID || !reflect.DeepEqual(whole(l), whole(want)) {
		t.Fatalf("%.60x: %d entries, %q, %v; not %d, %q, %v", b, len(l), id, e, len(want), wantID, wantE)
	}
	return l
}

// whole makes nil and empty data one.
func whole(l []pack.Raw) []pack.Raw {
	out := slices.Clone(l)
	for i := range out {
		out[i].Data = append([]byte{}, out[i].Data...)
	}
	return append([]pack.Raw{}, out...)
}

func isRefused(t *testing.T, b string, want api.Errno) {
	t.Helper()
	if l, id, e := pack.Read([]byte(b)); len(l) > 0 || id != "" || e != want {
		t.Errorf("%.60x (%d bytes): %d entries, %q, %v; not %v", b, len(b), len(l), id, e, want)
	}
}

// agrees holds a Read to the model's, and tells the error.
func agrees(t *testing.T, b string) api.Errno {
	t.Helper()
	_, _, e := modelRead([]byte(b))
	if e == api.OK {
		reads(t, b)
	} else {
		isRefused(t, b, e)
	}
	return e
}

// sample has entries of all kinds.
func sample() string {
	first := plain(api.KCommit, "a commit")
	second := plain(api.KBlob, lines(1, 10))
	third := ofs(len(second), change(lines(1, 10), lines(2, 9)))
	fourth := ref(modelID(api.KBlob, lines(1, 10)), change(lines(1, 10), lines(3, 12)))
	return packed(first, second, third, fourth, plain(api.KTree, ""), plain(api.KTag, "a tag"), ofs(len(fourth), "no delta"))
}

// 11.1

func TestHead(t *testing.T) {
	for _, x := range []struct {
		kind, size int
		want       string
	}{
		{3, 20, "\xb4\x01"}, {3, 0, "\x30"}, {1, 15, "\x1f"}, {1, 16, "\x90\x01"}, {2, 17, "\xa1\x01"}, {4, 2047, "\xcf\x7f"}, {6, 2048, "\xe0\x80\x01"}, {7, 65536, "\xf0\x80\x20"}, {7, 65535, "\xff\xff\x1f"}, {3, 1<<31 - 1, "\xbf\xff\xff\xff\x3f"}, {3, 1 << 31, "\xb0\x80\x80\x80\x40"},
	} {
		if got := pack.Head(x.kind, x.size); string(got) != x.want {
			t.Errorf("%d, %d: %x", x.kind, x.size, got)
		}
	}
	for kind := 1; kind < 8; kind++ {
		for size := range 70000 {
			isHead(t, kind, size)
		}
		for k := range 60 {
			for size := 1<<k - 2; size < 1<<k+2; size++ {
				isHead(t, kind, max(size, 0))
			}
		}
		isHead(t, kind, math.MaxInt)
	}
}

func isHead(t *testing.T, kind, size int) {
	t.Helper()
	if got := pack.Head(kind, size); string(got) != modelHead(kind, size) {
		t.Errorf("%d, %d: %x", kind, size, got)
	}
}

func TestBack(t *testing.T) {
	for n, want := range map[int]string{
		1: "\x01", 2: "\x02", 127: "\x7f", 128: "\x80\x00", 129: "\x80\x01", 255: "\x80\x7f", 256: "\x81\x00", 16511: "\xff\x7f", 16512: "\x80\x80\x00", 2113663: "\xff\xff\x7f", 2113664: "\x80\x80\x80\x00",
	} {
		if got := pack.Back(n); string(got) != want {
			t.Errorf("%d: %x", n, got)
		}
	}
	for n := 1; n < 70000; n++ {
		isBack(t, n)
	}
	for k := range 60 {
		for n := 1<<k - 2; n < 1<<k+2; n++ {
			isBack(t, max(n, 1))
		}
	}
	isBack(t, math.MaxInt)
}

// isBack reads an offset as the chapter says.
func isBack(t *testing.T, n int) {
	t.Helper()
	got := pack.Back(n)
	v := int(got[0] & 0x7f)
	for i, x := range got {
		if i > 0 {
			v = (v+1)*128 + int(x&0x7f)
		}
		if (x >= 0x80) != (i < len(got)-1) {
			t.Errorf("%d: %x", n, got)
		}
	}
	if v != n {
		t.Errorf("%d: %x, which is %d", n, got, v)
	}
	if n < 1<<40 && string(got) != modelBack(n) {
		t.Errorf("%d: %x", n, got)
	}
}

// 11.2

func TestRead(t *testing.T) {
	l := reads(t, sample())
	kinds := []int{api.KCommit, api.KBlob, api.KOfs, api.KRef, api.KTree, api.KTag, api.KOfs}
	at := 12
	for i, r := range l {
		if r.Kind != kinds[i] || r.At != at || r.Size != len(r.Data) {
			t.Error(i, r)
		}
		if (r.Base != "") != (r.Kind == api.KRef) || (r.Off != 0) != (r.Kind == api.KOfs) {
			t.Error(i, r)
		}
		at = len(sample()) - 20
		if i+1 < len(l) {
			at = l[i+1].At
		}
	}
	if l[2].Off != l[1].At || l[6].Off != l[3].At+len(plain(api.KTree, ""))+len(plain(api.KTag, "a tag")) || l[3].Base != modelID(api.KBlob, lines(1, 10)) {
		t.Error(l)
	}
	if string(l[0].Data) != "a commit" || string(l[1].Data) != lines(1, 10) || string(l[6].Data) != "no delta" {
		t.Error(l)
	}
}

func TestReadOfNone(t *testing.T) {
	if l := reads(t, packed()); len(l) != 0 {
		t.Error(l)
	}
	if len(packed()) != 32 {
		t.Error(len(packed()))
	}
}

func TestTorn(t *testing.T) {
	b := sample()
	for n := range b {
		isRefused(t, b[:n], api.ErrTorn)
	}
	isRefused(t, packed()[:31], api.ErrTorn)
	isRefused(t, packed()[:12], api.ErrTorn)
	isRefused(t, "PACK\x00\x00\x00\x02\x00\x00\x10\x00", api.ErrTorn)
	isRefused(t, "PACK\x00\x00\x00\x02\xff\xff\xff", api.ErrTorn)
}

// One of the first eight bytes that is wrong is named as soon as it is there.
func TestStart(t *testing.T) {
	b := sample()
	for at := range 8 {
		for x := range 256 {
			if byte(x) == b[at] {
				continue
			}
			wrong := b[:at] + string([]byte{byte(x)})
			isRefused(t, wrong, api.ErrForm)
			isRefused(t, wrong+b[at+1:], api.ErrForm)
			isRefused(t, wrong+b[at+1:12], api.ErrForm)
		}
	}
	for _, s := range []string{"pack", "IDX", "KCAP", "PACK\x00\x00\x00\x03", "PACK\x00\x00\x00\x01\x00", "PACK\x02\x00\x00\x00\x00\x00\x00\x00"} {
		isRefused(t, s, api.ErrForm)
	}
}

func TestCount(t *testing.T) {
	entry := plain(api.KBlob, "")
	l := make([]string, 4096)
	for i := range l {
		l[i] = entry
	}
	if got := reads(t, packed(l...)); len(got) != 4096 {
		t.Error(len(got))
	}
	isRefused(t, packed(append(l, entry)...), api.ErrBig)
	for _, s := range []string{"\x00\x00\x10\x01", "\x00\x00\x20\x00", "\x00\x01\x00\x00", "\x01\x00\x00\x00", "\x80\x00\x00\x00", "\xff\xff\xff\xff"} {
		isRefused(t, "PACK\x00\x00\x00\x02"+s, api.ErrBig)
		isRefused(t, summed("PACK\x00\x00\x00\x02"+s), api.ErrBig)
		isRefused(t, "PACK\x00\x00\x00\x02"+s[:3], api.ErrTorn)
	}
	// A count that is wrong leaves too few bytes, or makes an entry of the digest, or a digest of an entry.
	for n := range 10 {
		b := summed("PACK\x00\x00\x00\x02" + string([]byte{0, 0, 0, byte(n)}) + strings.Repeat(entry, 5))
		e := agrees(t, b)
		if (e == api.OK) != (n == 5) || n < 5 && e != api.ErrSum {
			t.Error(n, e)
		}
	}
}

func TestMaxPack(t *testing.T) {
	text := noise(rand.New(rand.NewSource(1121)), 65536)
	great := modelHead(api.KBlob, len(text)) + stored(text, 65535)
	l := slices.Repeat([]string{great}, 15)
	n := 1<<20 - 32 - 15*len(great) - 3 - 11 // what a head of three bytes and one block leave
	l = append(l, modelHead(api.KBlob, n)+stored(text[:n], 65535))
	b := packed(l...)
	if len(b) != 1<<20 {
		t.Fatal(len(b))
	}
	reads(t, b)
	isRefused(t, b[:len(b)-1], api.ErrTorn)
	isRefused(t, b+"z", api.ErrBig)
	for _, start := range []string{"", "PACK", b[:12], "PACK\x00\x00\x00\x02\xff\xff\xff\xff"} {
		isRefused(t, start+strings.Repeat("z", 1<<20+1-len(start)), api.ErrBig)
	}
	isRefused(t, strings.Repeat("z", 1<<20), api.ErrForm)
	isRefused(t, packed(append(l[:15:15], modelHead(api.KBlob, n+1)+stored(text[:n+1], 65535))...), api.ErrBig)
}

// The kind is examined ahead of all that follows.
func TestKindsOfEntries(t *testing.T) {
	for kind := range 8 {
		for low := range 16 {
			for _, more := range []string{"", "\x80\x80\x80\x80\x80\x80", "\xff\xff\xff\xff\x7f", "\x01", zip("ab"), strings.Repeat("z", 40)} {
				first := string([]byte{byte(kind*16 + low)})
				goesOn := string([]byte{byte(128 + kind*16 + low)})
				for _, b := range []string{packed(first + more), packed(goesOn + more), packed(first + more)[:13], packed(goesOn + more)[:13+len(more)]} {
					if kind == 0 || kind == 5 {
						isRefused(t, b, api.ErrForm)
					} else {
						agrees(t, b)
					}
				}
			}
		}
	}
	isRefused(t, "PACK\x00\x00\x00\x02\x00\x00\x00\x01\x80", api.ErrForm)
	isRefused(t, "PACK\x00\x00\x00\x02\x00\x00\x00\x01\xd0", api.ErrForm)
	isRefused(t, "PACK\x00\x00\x00\x02\x00\x00\x00\x01\xb0", api.ErrTorn)
}

// groups are n as a head has it, in so many bytes.
func groups(kind, n, count int) string {
	b := []byte{byte(kind*16 + n%16)}
	n /= 16
	for len(b) < count {
		b[len(b)-1] |= 0x80
		b = append(b, byte(n%128))
		n /= 128
	}
	return string(b)
}

func TestHeads(t *testing.T) {
	text := strings.Repeat("z", 65537)
	for _, kind := range []int{1, 2, 3, 4, 6, 7} {
		between := map[int]string{6: "\x0c", 7: strings.Repeat("h", 20)}[kind]
		for _, n := range []int{0, 1, 2, 15} {
			for count := 1; count <= 5; count++ {
				l := reads(t, packed(groups(kind, n, count)+between+zip(text[:n])))
				if l[0].Kind != kind || l[0].Size != n {
					t.Error(l[0])
				}
			}
			for _, count := range []int{6, 7, 11, 30, 100} {
				b := groups(kind, n, count)
				isRefused(t, packed(b+between+zip(text[:n])), api.ErrForm)
				isRefused(t, "PACK\x00\x00\x00\x02\x00\x00\x00\x01"+b, api.ErrForm)
				isRefused(t, "PACK\x00\x00\x00\x02\x00\x00\x00\x01"+b[:len(b)-1], api.ErrTorn) // however many bytes it has
			}
		}
		for _, n := range []int{16, 2047, 2048, 65535, 65536} {
			l := reads(t, packed(modelHead(kind, n)+between+zip(text[:n])))
			if l[0].Kind != kind || l[0].Size != n || len(l[0].Data) != n {
				t.Error(l[0])
			}
		}
		for _, n := range []int{65537, 65552, 1 << 17, 1 << 24, 1<<31 - 1} {
			for _, b := range []string{modelHead(kind, n), groups(kind, n, 5)} {
				isRefused(t, packed(b+between+zip(text)), api.ErrBig)
				isRefused(t, "PACK\x00\x00\x00\x02\x00\x00\x00\x01"+b, api.ErrBig)
				isRefused(t, "PACK\x00\x00\x00\x02\x00\x00\x00\x01"+b[:len(b)-1], api.ErrTorn)
			}
		}
		for _, n := range []int{1 << 31, 1<<31 + 1, 1<<32 - 1, 1 << 32, 1 << 33, 1<<32 + 2, 1 << 34} {
			b := modelHead(kind, n)
			isRefused(t, packed(b+between+zip("ab")), api.ErrForm)
			isRefused(t, "PACK\x00\x00\x00\x02\x00\x00\x00\x01"+b, api.ErrForm)
			isRefused(t, "PACK\x00\x00\x00\x02\x00\x00\x00\x01"+b[:len(b)-1], api.ErrTorn)
		}
	}
}

// Where the base of an entry begins is no matter, as long as it lies in the pack.
func TestBacks(t *testing.T) {
	first := plain(api.KBlob, noise(rand.New(rand.NewSource(1122)), 60000))
	l := []string{first}
	at := 12 + len(first)
	head := modelHead(api.KOfs, 2)
	for _, n := range []int{1, 2, 12, 127, 128, 129, 16511, 16512, 16513, at - 1, at} {
		got := reads(t, packed(first, head+modelBack(n)+zip("ab")))
		if got[1].Off != at-n || got[1].At != at {
			t.Error(n, got[1].Off)
		}
		isRefused(t, packed(first, head+modelBack(n))[:at+len(head)+len(modelBack(n))-1], api.ErrTorn)
	}
	for _, n := range []int{at + 1, at + 2, at + 128, 2113664, 1 << 24, 270549119, 270549120, 1 << 31, 34630287487} {
		isRefused(t, packed(first, head+modelBack(n)+zip("ab")), api.ErrForm)
		isRefused(t, packed(first, head+modelBack(n))[:at+len(head)+len(modelBack(n))], api.ErrForm) // ahead of what follows
		isRefused(t, packed(first, head+modelBack(n))[:at+len(head)+len(modelBack(n))-1], api.ErrTorn)
	}
	for _, s := range []string{"\x00", "\x80\x80\x80\x80\x00", "\xff\xff\xff\xff\x7f", "\x80\x80\x80\x80\x80\x00", "\xff\xff\xff\xff\xff\x7f", strings.Repeat("\xff", 8) + "\x7f", strings.Repeat("\x80", 9) + "\x01", strings.Repeat("\xff", 9) + "\x00", strings.Repeat("\xfe", 9) + "\xff\x0c", strings.Repeat("\xfe", 20) + "\xff\x0c"} { // the last two are 12, if 64 bits are counted
		isRefused(t, packed(append(l, head+s+zip("ab"))...), api.ErrForm)
		isRefused(t, packed(append(l, head+s)...)[:at+len(head)+len(s)], api.ErrForm)
		isRefused(t, packed(append(l, head+s)...)[:at+len(head)+len(s)-1], api.ErrTorn)
	}
	// The first entry has nothing but the start of the pack before it.
	for n := 1; n <= 12; n++ {
		if got := reads(t, packed(head+modelBack(n)+zip("ab"))); got[0].Off != 12-n {
			t.Error(n, got[0])
		}
	}
	isRefused(t, packed(head+modelBack(13)+zip("ab")), api.ErrForm)
}

// No way back has two forms, so that any number of bytes leads beyond the beginning at some time.
func TestBackOfManyBytes(t *testing.T) {
	head := modelHead(api.KOfs, 2)
	for n := 1; n < 70; n++ {
		agrees(t, packed(plain(3, "text"), head+strings.Repeat("\x80", n)+"\x00"+zip("ab")))
		agrees(t, packed(plain(3, "text"), head+strings.Repeat("\xff", n)+"\x7f"+zip("ab")))
	}
}

func TestHashes(t *testing.T) {
	rnd := rand.New(rand.NewSource(1123))
	for range 50 {
		hash := noise(rnd, 20)
		b := packed(plain(3, "text"), modelHead(api.KRef, 2)+hash+zip("ab"))
		if l := reads(t, b); l[1].Base != hexOf(hash) || l[1].Off != 0 || string(l[1].Data) != "ab" {
			t.Error(l[1])
		}
	}
}

// The errors of decompression are those of the data, and come ahead of that of the size.
func TestData(t *testing.T) {
	text := strings.Repeat("z", 65536)
	for _, size := range []int{0, 1, 2, 3, 65536} {
		for data, want := range map[string]api.Errno{
			"\x78\x02":                               api.ErrForm,
			"\x79\x9c":                               api.ErrForm,
			"\x78\x01\x07" + strings.Repeat("z", 40): api.ErrForm,
			zip("ab")[:7] + "\xff\xff\xff\xff":       api.ErrForm,
			stored("ab", 2)[:9] + "\x01\x26\x00\xc5": api.ErrSum,
			zip(text + "z"):                          api.ErrBig,
			zip(text + text):                         api.ErrBig,
		} {
			isRefused(t, packed(modelHead(api.KBlob, size)+data), want)
		}
		agrees(t, packed(modelHead(api.KBlob, size)))
	}
	for n := range 40 {
		for size := range 40 {
			b := packed(modelHead(api.KBlob, size) + zip(text[:n]))
			if n == size {
				reads(t, b)
			} else {
				isRefused(t, b, api.ErrForm)
			}
		}
	}
	for _, n := range []int{0, 65535} {
		isRefused(t, packed(modelHead(api.KBlob, 65536)+zip(text[:n])), api.ErrForm)
		isRefused(t, packed(modelHead(api.KBlob, n)+zip(text)), api.ErrForm)
	}
}

// The data may take far more bytes than their size says.
func TestDataOfManyBlocks(t *testing.T) {
	for _, most := range []int{1, 2, 3, 10} {
		for _, n := range []int{1, 60, 64, 65, 66, 1000, 20000} {
			text := noise(rand.New(rand.NewSource(1124)), n)
			entry := modelHead(api.KBlob, n) + stored(text, most)
			l := reads(t, packed(entry, plain(3, "text"), entry))
			if string(l[0].Data) != text || string(l[2].Data) != text {
				t.Error(most, n)
			}
			agrees(t, packed(entry[:len(entry)-1]))
		}
	}
	empty := modelHead(api.KBlob, 0) + "\x78\x01" + strings.Repeat("\x00\x00\x00\xff\xff", 150000) + "\x01\x00\x00\xff\xff\x00\x00\x00\x01"
	reads(t, packed(empty, plain(3, "text")))
	isRefused(t, packed(empty)[:700000], api.ErrTorn)
}

func TestEnd(t *testing.T) {
	b := sample()
	for at := len(b) - 20; at < len(b); at++ {
		for _, x := range []byte{1, 0x80, 0xff} {
			wrong := []byte(b)
			wrong[at] ^= x
			isRefused(t, string(wrong), api.ErrSum)
			isRefused(t, string(wrong)+"more", api.ErrSum)
		}
	}
	for _, more := range []string{"\x00", "z", b[len(b)-20:], b, packed(), strings.Repeat("\x00", 1000)} {
		isRefused(t, b+more, api.ErrForm)
		isRefused(t, packed()+more, api.ErrForm)
	}
	isRefused(t, packed()[:12]+b[len(b)-20:], api.ErrSum)
	isRefused(t, summed(b), api.ErrForm)
}

// Every byte of a pack is changed, left out and doubled.
func TestReadByTheModel(t *testing.T) {
	seen := map[api.Errno]int{}
	b := sample()
	body := b[:len(b)-20]
	for at := range b {
		for _, s := range []string{"", "\x00", "\x80", "\xff", "\x7f", b[at:at+1] + b[at:at+1], string([]byte{b[at] ^ 0x10}), string([]byte{b[at] ^ 1}), string([]byte{b[at] ^ 0x40})} {
			seen[agrees(t, b[:at]+s+b[at+1:])]++
			if at < len(body) {
				seen[agrees(t, summed(body[:at]+s+body[at+1:]))]++
			}
		}
	}
	for _, e := range []api.Errno{api.OK, api.ErrForm, api.ErrTorn, api.ErrBig, api.ErrSum} {
		if seen[e] < 10 {
			t.Error(e, seen[e])
		}
	}
}

// 11.5

func TestAllBytes(t *testing.T) {
	rnd := rand.New(rand.NewSource(115))
	b := sample()
	for range 20000 {
		n := rnd.Intn(len(b) - 20)
		agrees(t, summed(b[:n]+noise(rnd, rnd.Intn(12))))
		agrees(t, b[:min(n, 12)]+noise(rnd, rnd.Intn(60)))
		agrees(t, noise(rnd, rnd.Intn(60)))
	}
}

// What hostile bytes unpack to is had as well as anything.
func TestManyGreatEntries(t *testing.T) {
	entry := plain(api.KBlob, strings.Repeat("\x00", 65536))
	l := make([]string, 1000)
	for i := range l {
		l[i] = entry
	}
	raw := reads(t, packed(l...))
	out, e := pack.Resolve(raw, nil)
	if len(out) != len(l) || e != api.OK {
		t.Error(len(out), e)
	}
}

// 11.6

// spare is a text in memory that has more behind it, which nothing may change.
func spare(s string) []byte {
	return append([]byte(s), "behind"...)[:len(s)]
}

func fill(b []byte) {
	b = b[:cap(b)]
	for i := range b {
		b[i] = 0xa5
	}
}

func TestMemoryOfRead(t *testing.T) {
	b := spare(sample())
	l, id, e := pack.Read(b)
	if string(b[:len(b)+6]) != sample()+"behind" || e != api.OK {
		t.Error(e)
	}
	fill(b)
	want, wantID, _ := modelRead([]byte(sample()))
	if id != wantID || !reflect.DeepEqual(whole(l), whole(want)) {
		t.Error(l)
	}
	for i := range l {
		if !bytes.Equal(l[i].Data, want[i].Data) {
			t.Error(i)
		}
		fill(l[i].Data)
	}
	reads(t, sample())
	head, back := pack.Head(3, 20), pack.Back(128)
	fill(head)
	fill(back)
	if string(pack.Head(3, 20)) != "\xb4\x01" || string(pack.Back(128)) != "\x80\x00" {
		t.Error("kept")
	}
}

func TestNothingPanics(t *testing.T) {
	for _, n := range []int{0, -1, -2, -128, math.MinInt, math.MinInt + 1, math.MaxInt, 1 << 40} {
		for _, kind := range []int{0, 5, 8, -1, math.MinInt, math.MaxInt, 255, 16} {
			if b := pack.Head(kind, n); len(b) == 0 || len(b) > 10 || b[len(b)-1] >= 0x80 {
				t.Errorf("%d, %d: %x", kind, n, b)
			}
		}
		if b := pack.Back(n); len(b) == 0 || len(b) > 10 || b[len(b)-1] >= 0x80 {
			t.Errorf("%d: %x", n, b)
		}
	}
	pack.Read(nil)
	pack.Resolve(nil, nil)
	pack.Order(nil)
	pack.Write(nil, nil)
}
