package loose_test

import (
	"bytes"
	"compress/zlib"
	"encoding/hex"
	"fmt"
	"io"
	"math"
	"slices"
	"strings"
	"testing"

	"stemma/api"
	"stemma/deflate"
	"stemma/fs"
	"stemma/loose"
)

const (
	empty = "e69de29bb2d1d6434b8b29ae775ad8c2e48c5391"
	id1   = "0123456789abcdef0123456789abcdef01234567"
	id2   = "fedcba9876543210fedcba9876543210fedcba98"
)

var (
	kinds    = []int{api.KCommit, api.KTree, api.KBlob, api.KTag}
	notKinds = []int{0, 5, 6, 7, -1, math.MaxInt, math.MinInt}
	sizes    = []int{0, 1, 9, 10, 99, 100, 999, 1000, 9999, 10000, 65535, 65536}
)

func disk(t *testing.T, files ...string) *fs.FS {
	t.Helper()
	f, e := fs.New(1 << 22)
	if e != api.OK {
		t.Fatal(e)
	}
	for i := 0; i < len(files); i += 2 {
		put(t, f, files[i], files[i+1])
	}
	return f
}

// put makes a file that is durable.
func put(t *testing.T, f *fs.FS, name, text string) {
	t.Helper()
	for i, e := range []api.Errno{f.Create(name), f.Append(name, []byte(text)), f.Sync(name), f.SyncNames()} {
		if e != api.OK {
			t.Fatalf("%q: call %d: %v", name, i, e)
		}
	}
}

// writes holds a Write to be one.
func writes(t *testing.T, f *fs.FS, kind int, body string) string {
	t.Helper()
	id, e := loose.Write(f, kind, []byte(body))
	if e != api.OK || id != modelID(kind, body) {
		t.Fatalf("%d, %.20q: %q, %v", kind, body, id, e)
	}
	return id
}

func doesNotWrite(t *testing.T, f *fs.FS, kind int, body string, want api.Errno) {
	t.Helper()
	if id, e := loose.Write(f, kind, []byte(body)); id != "" || e != want {
		t.Errorf("%d, %.20q: %q, %v; not %v", kind, body, id, e, want)
	}
}

func reads(t *testing.T, f *fs.FS, kind int, body string) {
	t.Helper()
	got, b, e := loose.Read(f, modelID(kind, body))
	if got != kind || string(b) != body || e != api.OK {
		t.Errorf("%d, %.20q: %d, %.20q, %v", kind, body, got, b, e)
	}
}

func doesNotRead(t *testing.T, f *fs.FS, id string, want api.Errno) {
	t.Helper()
	if kind, b, e := loose.Read(f, id); kind != 0 || b != nil || e != want {
		t.Errorf("%q: %d, %.20q, %v; not %v", id, kind, b, e, want)
	}
}

func parses(t *testing.T, b []byte, kind int, body string) {
	t.Helper()
	if got, c, e := loose.Parse(b); got != kind || string(c) != body || e != api.OK {
		t.Errorf("%.40x: %d, %d bytes (%.20q), %v; not %d, %d bytes (%.20q)", b, got, len(c), c, e, kind, len(body), body)
	}
}

func isRefused(t *testing.T, b []byte, want api.Errno) {
	t.Helper()
	if kind, body, e := loose.Parse(b); kind != 0 || body != nil || e != want {
		t.Errorf("%.40x: %d, %d bytes (%.20q), %v; not %v", b, kind, len(body), body, e, want)
	}
}

func packed(text string) []byte {
	return deflate.Zlib([]byte(text), 1)
}

// 9.1

func TestPaths(t *testing.T) {
	for id, want := range map[string]string{
		empty:                   "objects/e6/9de29bb2d1d6434b8b29ae775ad8c2e48c5391",
		id1:                     "objects/01/23456789abcdef0123456789abcdef01234567",
		strings.Repeat("0", 40): "objects/00/" + strings.Repeat("0", 38),
		strings.Repeat("f", 40): "objects/ff/" + strings.Repeat("f", 38),
	} {
		if got := loose.Path(id); got != want {
			t.Errorf("%s: %q", id, got)
		}
	}
}

func TestNoPathsOfOtherTexts(t *testing.T) {
	for _, id := range []string{"", "0", "q", id1[1:], id1[2:], id1 + "0", id1 + id2, " " + id1[1:], strings.ToUpper(id1), loose.Path(id1), strings.Repeat("é", 20), strings.Repeat("٣", 20), strings.Repeat("0", 64)} {
		if got := loose.Path(id); got != "" {
			t.Errorf("%q: %q", id, got)
		}
	}
	for at := range 40 {
		for c := range 256 {
			id, want := id2[:at]+string([]byte{byte(c)})+id2[at+1:], ""
			if strings.IndexByte("0123456789abcdef", byte(c)) >= 0 {
				want = modelPath(id)
			}
			if got := loose.Path(id); got != want {
				t.Errorf("%q: %q", id, got)
			}
		}
	}
}

func TestFiles(t *testing.T) {
	for _, kind := range append(kinds, notKinds...) {
		for _, n := range append(sizes, 65537, 200000) {
			body := long(n)
			b := loose.File(kind, []byte(body))
			if !bytes.Equal(b, modelFile(kind, body)) {
				t.Errorf("%d, %d: not the bytes of level 2", kind, n)
			}
			r, err := zlib.NewReader(bytes.NewReader(b))
			if err != nil {
				t.Fatal(err)
			}
			if text, err := io.ReadAll(r); err != nil || string(text) != modelText(kind, body) {
				t.Errorf("%d, %d: %.30q, %v", kind, n, text, err)
			}
		}
	}
}

func TestParseOfFiles(t *testing.T) {
	for _, kind := range kinds {
		for _, n := range sizes {
			body := long(n)
			parses(t, loose.File(kind, []byte(body)), kind, body)
			for level := range 3 {
				parses(t, deflate.Zlib([]byte(modelText(kind, body)), level), kind, body)
			}
			for level := zlib.HuffmanOnly; level <= zlib.BestCompression; level++ {
				var b bytes.Buffer
				w, _ := zlib.NewWriterLevel(&b, level)
				io.WriteString(w, modelText(kind, body))
				w.Close()
				parses(t, b.Bytes(), kind, body)
			}
		}
	}
}

// These are files that Git wrote.
func TestParseOfFilesOfGit(t *testing.T) {
	const who = "A U Thor <a@example.org> 1234567890 +0100"
	for _, x := range []struct {
		id, digits string
		kind       int
		body       string
	}{
		{empty, "78014bcac94f523060000009b001f0", api.KBlob, ""},
		{"ce013625030ba8dba906f756967f9e9ca394464a", "78014bcac94f523063c848cdc9c9e702001dc50414", api.KBlob, "hello\n"},
		{"fb5a86199f63243160ee5b463d2cd5c36fafeb6d", "78012b294a4d553036623034303033315148cbcc496538c768a6caccbde2f64ab6ef61d3eae7cd593cc5cd0b00f4150df2", api.KTree, "100644 file\x00\xce\x01\x36\x25\x03\x0b\xa8\xdb\xa9\x06\xf7\x56\x96\x7f\x9e\x9c\xa3\x94\x46\x4a"},
		{"11474ba723269c1cf6419cb5cb2ea32980c00f0b", "780195cd4d0a02310c4061d73d45f682344d1ba7308873073d407f521db0546a8539bee80ddcbdcdc74badd675003abb1b5d044a746162f4be30194bc85ac445cb944dca2e119750247256e13deeadc30257b87c630e67d9427d3ee4d0faed0468c83a3e4e5ec35ea3d62afd4e43fe31aaacfd35d407e17b2fff", api.KCommit, "tree fb5a86199f63243160ee5b463d2cd5c36fafeb6d\nauthor " + who + "\ncommitter " + who + "\n\nfirst\n"},
		{"e8ee9f1e52d0ee2da84874af7d4acc7c0833d80b", "7801158d410ac23010003de7157b1764374993068ae81ff4019b655b15434a08a2bfb73dcd69663a2f40d61d6a7ea97420f2d1678ed6d99084640e9e92e441b25576368d28883366d37fab82d4529eddf4adf1a11d8b36b8c21d6e8fda60e28b7eb9ac6f3dd5b69cf78d1f421c13c21109d11886cd317fd8e2257e", api.KTag, "object 11474ba723269c1cf6419cb5cb2ea32980c00f0b\ntype commit\ntag v1\ntagger " + who + "\n\na tag\n"},
	} {
		b, err := hex.DecodeString(x.digits)
		if err != nil {
			t.Fatal(err)
		}
		parses(t, b, x.kind, x.body)
		f := disk(t, loose.Path(x.id), string(b))
		if kind, body, e := loose.Read(f, x.id); kind != x.kind || string(body) != x.body || e != api.OK {
			t.Errorf("%s: %d, %q, %v", x.id, kind, body, e)
		}
	}
}

func TestHeads(t *testing.T) {
	for _, text := range []string{
		"", "\x00", " ", " \x00", "0\x00", " 0\x00", " 2\x00ab", "2\x00ab",
		"blob", "blob ", "blob\x00", "blob \x00", "blob 0", "blob 2", "blob 2ab", "blob2\x00ab", "blob 2 ab", "blob\x002\x00ab",
		"blob 1\x00ab", "blob 3\x00ab", "blob 0\x00ab", "blob 20\x00ab", "blob 2\x00", "blob 2\x00a", "blob 2\x00abc",
		"blob 02\x00ab", "blob 002\x00ab", "blob +2\x00ab", "blob -2\x00ab", "blob -0\x00", "blob -1\x00", "blob +0\x00", "blob 00\x00", "blob 0x2\x00ab", "blob 2.0\x00ab", "blob 2e0\x00ab", "blob 1_0\x00abcdefghij",
		"blob  2\x00ab", "blob 2 \x00ab", " blob 2\x00ab", "blob\t2\x00ab", "blob 2\n\x00ab", "blob 2 2\x00ab", "blob ٢\x00ab", "blob 2\xff\x00ab", "blob \xff2\x00ab", "blob :\x00" + long(10), "blob /\x00" + long(9),
		"Blob 2\x00ab", "blub 2\x00ab", "blo 2\x00ab", "blobs 2\x00ab", "BLOB 2\x00ab", "ofs 2\x00ab", "3 2\x00ab", "commits 2\x00ab", "blob\xff 2\x00ab", "blob tree 2\x00ab",
	} {
		isRefused(t, packed(text), api.ErrForm)
	}
	for _, text := range []string{"\x00", "\x00\x00", " ", "0", "0\x00", "blob 0\x00", "12", "\xff\xfe", "\n"} {
		for _, kind := range kinds {
			parses(t, packed(modelText(kind, text)), kind, text)
		}
	}
}

func TestHeadsByTheModel(t *testing.T) {
	seen := map[api.Errno]int{}
	for _, text := range []string{modelText(api.KBlob, "ab"), modelText(api.KTree, ""), modelText(api.KCommit, long(12)), modelText(api.KTag, "\x00 1\x00")} {
		for _, s := range mended(text) {
			kind, body, e := modelParse(s)
			seen[e]++
			if e != api.OK {
				isRefused(t, packed(s), e)
				continue
			}
			parses(t, packed(s), kind, body)
		}
	}
	if seen[api.OK] < 4 || seen[api.ErrForm] < 4 {
		t.Error(seen)
	}
}

// A size that is beyond any int must not come round to the right one.
func TestGreatSizes(t *testing.T) {
	for _, digits := range []string{"4294967298", "9223372036854775807", "9223372036854775810", "18446744073709551618", "36893488147419103234", "340282366920938463463374607431768211458"} {
		isRefused(t, packed("blob "+digits+"\x00ab"), api.ErrForm)
	}
	for _, c := range "0123456789" {
		isRefused(t, packed("blob "+strings.Repeat(string(c), 60000)+"\x00ab"), api.ErrForm)
		isRefused(t, packed("blob "+strings.Repeat(string(c), 60000)), api.ErrForm)
	}
	isRefused(t, packed("blob 1"+strings.Repeat("0", 60000)+"\x00"), api.ErrForm)
	isRefused(t, packed("blob "+strings.Repeat("0", 60000)+"2\x00ab"), api.ErrForm)
}

func TestPiecesAreTorn(t *testing.T) {
	for _, kind := range kinds {
		for _, body := range []string{"", "ab", long(300)} {
			b := loose.File(kind, []byte(body))
			for n := range b {
				isRefused(t, b[:n], api.ErrTorn)
			}
		}
	}
	isRefused(t, nil, api.ErrTorn)
}

func TestAllOfAFileIsUsed(t *testing.T) {
	for _, more := range []string{"\x00", "\n", "x", string(loose.File(api.KBlob, nil)), strings.Repeat("\x00", 1<<17)} {
		for _, body := range []string{"", "ab", long(65536), long(65537)} {
			isRefused(t, append(loose.File(api.KBlob, []byte(body)), more...), api.ErrForm)
		}
	}
}

func TestErrorsOfInflate(t *testing.T) {
	b := packed("blob 2\x00ab")
	last := len(b) - 1
	for i := range 32 {
		c := bytes.Clone(b)
		c[last-i/8] ^= 1 << (i % 8)
		isRefused(t, c, api.ErrSum)
		isRefused(t, append(c, 0), api.ErrSum) // ahead of the form
	}
	c := packed("blub 2\x00ab")
	c[len(c)-1] ^= 1
	isRefused(t, c, api.ErrSum)
	isRefused(t, c[:len(c)-1], api.ErrTorn)
	isRefused(t, append([]byte("\x78\x02"), b[2:]...), api.ErrForm)
	isRefused(t, []byte("\x78\x01\x07"), api.ErrForm)
	isRefused(t, b[2:], api.ErrForm)
	isRefused(t, []byte("blob 2\x00ab"), api.ErrForm)
}

func TestBounds(t *testing.T) {
	const most = api.MaxObject + 32
	for _, kind := range kinds {
		head := len(modelText(kind, long(65536))) - 65536
		for _, n := range []int{65535, 65536, 65537, 65538, most - head - 1, most - head, most - head + 1, most - head + 2} {
			b := packed(modelText(kind, long(n)))
			if n <= api.MaxObject {
				parses(t, b, kind, long(n))
				continue
			}
			isRefused(t, b, api.ErrBig)
			isRefused(t, b[:len(b)/2], api.ErrTorn)
			if head+n > most { // the whole is too long, and nothing else counts then
				isRefused(t, append(b, 0), api.ErrBig)
				isRefused(t, packed("x"+modelText(kind, long(n))), api.ErrBig)
				isRefused(t, b[:len(b)-1], api.ErrBig)
				continue
			}
			isRefused(t, append(b, 0), api.ErrForm)
			isRefused(t, b[:len(b)-1], api.ErrTorn)
			isRefused(t, packed("x"+modelText(kind, long(n))[1:]), api.ErrForm)
			isRefused(t, packed(names[kind]+" 65536\x00"+long(n)), api.ErrForm)
		}
	}
	isRefused(t, packed(strings.Repeat("x", most)), api.ErrForm)
	isRefused(t, packed(strings.Repeat("x", most+1)), api.ErrBig)
	isRefused(t, packed("blob 65537\x00"+long(65536)), api.ErrForm)
	isRefused(t, packed("blob 1000000\x00"+long(1000000)), api.ErrBig)
}

// 9.2

func TestExample(t *testing.T) {
	f := disk(t)
	id, e := loose.Write(f, api.KBlob, nil)
	if id != empty || e != api.OK {
		t.Error(id, e)
	}
	if l := f.List(""); !slices.Equal(l, []string{"objects/e6/9de29bb2d1d6434b8b29ae775ad8c2e48c5391"}) {
		t.Errorf("%q", l)
	}
	doesNotRead(t, f, id1, api.ErrNone)
}

func TestRoundTrips(t *testing.T) {
	f := disk(t)
	var want []string
	for _, kind := range kinds {
		for _, n := range sizes {
			id := writes(t, f, kind, long(n))
			reads(t, f, kind, long(n))
			b, e := f.Read(loose.Path(id))
			if e != api.OK || !bytes.Equal(b, modelFile(kind, long(n))) {
				t.Errorf("%d, %d: %.40x, %v", kind, n, b, e)
			}
			want = append(want, id)
		}
	}
	for _, kind := range kinds {
		for _, n := range sizes {
			reads(t, f, kind, long(n))
		}
	}
	slices.Sort(want)
	if l := loose.IDs(f); !slices.Equal(l, want) {
		t.Errorf("%q, not %q", l, want)
	}
	if l := f.List("tmp"); len(l) > 0 {
		t.Errorf("%q", l)
	}
}

// A Write is told from the calls of the chapter by no change that fails and no crash.
func TestWriteIsItsCalls(t *testing.T) {
	id := modelID(api.KBlob, "text")
	whole := string(modelFile(api.KBlob, "text"))
	for i, files := range [][]string{
		nil,
		{"tmp/" + id, ""},
		{"tmp/" + id, "other bytes"},
		{"tmp/" + id, whole},
		{"tmp/" + id + "0", "x", "tmp/" + id[1:], "y", "tmp", "z"},
		{modelPath(id) + "0", "x", modelPath(id)[:48], "y", "objects", "z"},
		{modelPath(id), whole},
		{modelPath(id), "other bytes", "tmp/" + id, "x"},
		{modelPath(id), whole, modelPath(id) + "0", "x", modelPath(id) + "/", "y"},
	} {
		for fuse := range 9 {
			t.Run(fmt.Sprint(i, fuse), func(t *testing.T) {
				f, g := disk(t, files...), disk(t, files...)
				f.Fuse(fuse)
				g.Fuse(fuse)
				got, e := loose.Write(f, api.KBlob, []byte("text"))
				want, e2 := modelWrite(g, api.KBlob, "text")
				if got != want || e != e2 {
					t.Errorf("%q, %v; not %q, %v", got, e, want, e2)
				}
				same(t, f, g)
			})
		}
	}
}

func TestWriteLeavesWhatExists(t *testing.T) {
	path := modelPath(empty)
	for _, text := range []string{"", "no object", string(modelFile(api.KBlob, "")), string(modelFile(api.KTag, "another"))} {
		f := disk(t, path, text, "tmp/"+empty, "x")
		g := f.Copy()
		f.Fuse(0)
		g.Fuse(0)
		writes(t, f, api.KBlob, "")
		same(t, f, g)
	}
	f := disk(t)
	for _, e := range []api.Errno{f.Create(path), f.Append(path, []byte("x"))} { // neither durable, nor made so
		if e != api.OK {
			t.Fatal(e)
		}
	}
	g := f.Copy()
	writes(t, f, api.KBlob, "")
	same(t, f, g)
}

func TestWriteErrors(t *testing.T) {
	f := disk(t, "tmp/"+empty, "x")
	g := f.Copy()
	for _, kind := range notKinds {
		doesNotWrite(t, f, kind, "", api.ErrArg)
		doesNotWrite(t, f, kind, long(65537), api.ErrArg)
	}
	for _, kind := range kinds {
		doesNotWrite(t, f, kind, long(65537), api.ErrBig)
		doesNotWrite(t, f, kind, long(1<<20), api.ErrBig)
	}
	same(t, f, g)
	die(f)
	for _, kind := range notKinds {
		doesNotWrite(t, f, kind, "", api.ErrArg)
	}
	doesNotWrite(t, f, api.KBlob, long(65537), api.ErrBig)
	doesNotWrite(t, f, api.KBlob, "", api.ErrDead)
}

func die(f *fs.FS) {
	f.Fuse(0)
	f.SyncNames()
}

func TestWriteNeedsRoom(t *testing.T) {
	need := len(modelFile(api.KBlob, "text"))
	for quota := range need {
		f, _ := fs.New(quota)
		g, _ := fs.New(quota)
		doesNotWrite(t, f, api.KBlob, "text", api.ErrFull)
		if _, e := modelWrite(g, api.KBlob, "text"); e != api.ErrFull {
			t.Error(e)
		}
		same(t, f, g)
		doesNotWrite(t, f, api.KBlob, "text", api.ErrFull)
		if loose.Sweep(f) != api.OK || len(f.List("")) > 0 {
			t.Errorf("%q", f.List(""))
		}
	}
	f, _ := fs.New(need)
	put(t, f, "tmp/"+modelID(api.KBlob, "text"), long(need)) // goes first, and makes room
	writes(t, f, api.KBlob, "text")
	reads(t, f, api.KBlob, "text")
	doesNotWrite(t, f, api.KBlob, "more", api.ErrFull)
	reads(t, f, api.KBlob, "text")
}

func TestReadErrors(t *testing.T) {
	f := disk(t, modelPath(id1), string(modelFile(api.KBlob, "ab")), "objects/"+id2, string(modelFile(api.KBlob, "")), id2, "x")
	for _, id := range []string{"", "1", id1[1:], id1 + "0", strings.ToUpper(id1), modelPath(id1), id1[:2] + "/" + id1[2:], "objects/" + id1, strings.Repeat("x", 40), strings.Repeat("x", 300), "\x00"} {
		doesNotRead(t, f, id, api.ErrArg)
	}
	doesNotRead(t, f, id2, api.ErrNone)
	doesNotRead(t, f, id1, api.ErrSum)
	die(f)
	doesNotRead(t, f, id1, api.ErrDead)
	doesNotRead(t, f, id2, api.ErrDead)
	doesNotRead(t, f, "1", api.ErrArg)
	doesNotRead(t, f, strings.Repeat("x", 40), api.ErrArg)
}

func TestReadHasTheErrorsOfParse(t *testing.T) {
	id := modelID(api.KBlob, "ab")
	b := packed("blob 2\x00ab")
	wrong := bytes.Clone(b)
	wrong[len(wrong)-1] ^= 1
	for _, x := range []struct {
		b    []byte
		want api.Errno
	}{
		{nil, api.ErrTorn}, {b[:len(b)-1], api.ErrTorn}, {wrong, api.ErrSum}, {append(b, 0), api.ErrForm}, {packed("blob 02\x00ab"), api.ErrForm}, {packed("blab 2\x00ab"), api.ErrForm},
		{packed("blob 65537\x00" + long(65537)), api.ErrBig}, {packed(long(1 << 17)), api.ErrBig},
		{packed("tree 2\x00ab"), api.ErrSum}, {packed("blob 2\x00ba"), api.ErrSum}, {packed("blob 3\x00abc"), api.ErrSum}, {packed("blob 0\x00"), api.ErrSum},
	} {
		doesNotRead(t, disk(t, modelPath(id), string(x.b)), id, x.want)
	}
	big := long(65537)
	doesNotRead(t, disk(t, modelPath(modelID(api.KBlob, big)), string(packed(modelText(api.KBlob, big)))), modelID(api.KBlob, big), api.ErrBig)
}

// W4: whatever is at a Path, Read tells the bytes of the ID or an error.
func TestReadTellsTheBytesOfTheID(t *testing.T) {
	for _, kind := range kinds {
		for _, body := range []string{"", "ab", long(90)} {
			id := modelID(kind, body)
			for _, b := range flipped(modelFile(kind, body)) {
				got, c, e := loose.Read(disk(t, modelPath(id), string(b)), id)
				if e == api.OK && (got != kind || string(c) != body) || e != api.OK && (got != 0 || c != nil) {
					t.Errorf("%x: %d, %q, %v", b, got, c, e)
				}
			}
		}
	}
}

// What is not a valid object is kept as well: only its kind and its size are looked at.
func TestBodiesAreNotLookedAt(t *testing.T) {
	f := disk(t)
	for _, kind := range kinds {
		for _, body := range []string{"anything", "\x00", "tree x\n", "blob 2\x00ab", "\xff"} {
			writes(t, f, kind, body)
			reads(t, f, kind, body)
		}
	}
}

func TestIDs(t *testing.T) {
	f := disk(t)
	if l := loose.IDs(f); len(l) > 0 {
		t.Errorf("%q", l)
	}
	rest := id1[2:]
	for _, name := range []string{
		"objects", "objects/", "objects//", "objects/01", "objects/01/", "objects/" + id1, "objects/0/" + id1[1:], "objects/012/" + id1[3:], "objects//01" + rest, "objects/01" + rest + "/",
		"objects/01/" + rest[1:], "objects/01/" + rest + "0", "objects/01//" + rest, "objects/01/" + rest + "/", "objects/01/2/" + rest[1:], "objects/0/1/" + rest, "/objects/01/" + rest, "object/01/" + rest, "objects2/01/" + rest,
		"Objects/01/" + rest, "objects/AB/" + rest, "objects/zz/1", "objects/zz/" + rest, "objects/ab/" + rest[1:] + "A", "objects/ab/" + rest[1:] + "\xff", "objects/ab/" + rest[1:] + " ",
		"objects/pack/x", "objects/pack/pack-" + id1 + ".pack", "objects/pack/" + id1[4:], "tmp/" + id1, "tmp/objects/01/" + rest, "refs/heads/" + id1, id1, "01/" + rest,
	} {
		put(t, f, name, "")
	}
	if l := loose.IDs(f); len(l) > 0 {
		t.Errorf("%q", l)
	}
	want := []string{strings.Repeat("0", 40), "00" + strings.Repeat("f", 38), id1, empty, id2, "ff" + strings.Repeat("0", 38), strings.Repeat("f", 40)}
	for i := range want {
		put(t, f, modelPath(want[i*3%len(want)]), "of any content")
	}
	if l := loose.IDs(f); !slices.Equal(l, want) {
		t.Errorf("%q, not %q", l, want)
	}
	die(f)
	if l := loose.IDs(f); len(l) > 0 {
		t.Errorf("%q", l)
	}
}

func TestSweep(t *testing.T) {
	swept := []string{"tmp/", "tmp/" + id1, "tmp/objects/01/x", "tmp//", "tmp/x", "tmp/\xff"}
	left := []string{"a", modelPath(id1), "tmp", "tmp.", "tmp0", "TMP/x", "tm/x", "x/tmp/x", " tmp/x", "refs/heads/tmp/x"}
	slices.Sort(left)
	for n := range len(swept) + 1 {
		f := disk(t)
		for _, name := range append(swept[:n:n], left...) {
			put(t, f, name, "x")
		}
		if e := loose.Sweep(f); e != api.OK || !slices.Equal(f.List(""), left) {
			t.Errorf("%q, %v", f.List(""), e)
		}
		f.Crash(0, nil) // brings none back
		if l := f.List(""); !slices.Equal(l, left) {
			t.Errorf("%q", l)
		}
	}
}

func TestSweepSyncsOnlyAfterChanges(t *testing.T) {
	f := disk(t, modelPath(id1), "x")
	f.Create("tmp")
	f.Fuse(0)
	if e := loose.Sweep(f); e != api.OK || f.Dead() {
		t.Error(e)
	}
	f.Crash(0, nil)
	if l := f.List(""); !slices.Equal(l, []string{modelPath(id1)}) {
		t.Errorf("%q", l)
	}
}

func TestSweepFails(t *testing.T) {
	files := []string{"tmp/a", "x", "tmp/b", "y", "tmp/c", "z", modelPath(id1), "x"}
	for fuse := range 6 {
		f, g := disk(t, files...), disk(t, files...)
		f.Fuse(fuse)
		g.Fuse(fuse)
		want := api.OK
		for _, e := range []api.Errno{g.Remove("tmp/a"), g.Remove("tmp/b"), g.Remove("tmp/c"), g.SyncNames()} {
			want = max(want, e)
		}
		if e := loose.Sweep(f); e != want || (e == api.OK) != (fuse >= 4) {
			t.Error(fuse, e)
		}
		same(t, f, g)
	}
}

// A dead file system tells no names (1.1), so that nothing is found to be swept.
func TestSweepOfTheDead(t *testing.T) {
	f := disk(t, "tmp/a", "x")
	die(f)
	if e := loose.Sweep(f); e != api.OK || !f.Dead() {
		t.Error(e)
	}
	f.Crash(0, nil)
	if l := f.List(""); !slices.Equal(l, []string{"tmp/a"}) {
		t.Errorf("%q", l)
	}
}

// 9.4

func TestArgumentsStay(t *testing.T) {
	f := disk(t)
	for _, body := range []string{"", "text", long(5000)} {
		file := loose.File(api.KTag, []byte(body))
		for _, b := range [][]byte{[]byte(body), file} {
			buffer := append(append(make([]byte, 0, len(b)+50), b...), "spare capacity"...)
			was := bytes.Clone(buffer)
			loose.File(api.KTag, buffer[:len(b)])
			loose.Parse(buffer[:len(b)])
			loose.Write(f, api.KTag, buffer[:len(b)])
			if !bytes.Equal(buffer, was) {
				t.Errorf("%.20q has changed", b)
			}
		}
	}
}

func TestResultsAreNew(t *testing.T) {
	f := disk(t)
	body := []byte("some text")
	id := writes(t, f, api.KBlob, "some text")
	file := loose.File(api.KBlob, body)
	_, parsed, _ := loose.Parse(file)
	_, again, _ := loose.Parse(file)
	_, read, _ := loose.Read(f, id)
	l := loose.IDs(f)
	spoil(body)
	spoil(file)
	spoil(parsed)
	if string(again) != "some text" || string(read) != "some text" {
		t.Errorf("%q, %q", again, read)
	}
	spoil(read)
	clear(l[:cap(l)])
	if got := loose.IDs(f); !slices.Equal(got, []string{id}) {
		t.Errorf("%q", got)
	}
	reads(t, f, api.KBlob, "some text")
	written := []byte("kept?")
	loose.Write(f, api.KBlob, written)
	spoil(written)
	reads(t, f, api.KBlob, "kept?")
}

// spoil writes over a slice and its spare capacity.
func spoil(b []byte) {
	b = b[:cap(b)]
	for i := range b {
		b[i] ^= 0xa5
	}
}

func TestNothingPanics(t *testing.T) {
	f := disk(t)
	texts := []string{"", "\x00", "\xff", "blob", "blob ", "\x78\x01", id1, long(1000), strings.Repeat("\x00", 100000), strings.Repeat("\xff", 100000)}
	for _, s := range texts {
		for _, kind := range append(kinds, notKinds...) {
			loose.File(kind, []byte(s))
			loose.Write(f, kind, []byte(s))
		}
		loose.Path(s)
		loose.Read(f, s)
		for _, b := range [][]byte{[]byte(s), packed(s), append([]byte("\x78\x01"), s...)} {
			if kind, body, e := loose.Parse(b); e == api.OK || kind != 0 || body != nil {
				t.Errorf("%.20q: %d, %.20q, %v", b, kind, body, e)
			}
		}
		f.Create(s)
		f.Create("objects/" + s)
		f.Create("tmp/" + s)
	}
	if e := loose.Sweep(f); e != api.OK {
		t.Error(e)
	}
	for _, id := range loose.IDs(f) {
		if _, _, e := loose.Read(f, id); e != api.OK {
			t.Error(id, e)
		}
	}
}
