package object_test

import (
	"bytes"
	"crypto/sha1"
	"encoding/hex"
	"fmt"
	"math"
	"reflect"
	"slices"
	"sort"
	"strings"
	"testing"

	"stemma/api"
	"stemma/object"
)

const (
	id1  = "0123456789abcdef0123456789abcdef01234567"
	id2  = "fedcba9876543210fedcba9876543210fedcba98"
	id3  = "00000000000000000000000000000000000000ff"
	zero = "0000000000000000000000000000000000000000"
	who  = "A U Thor <a@example.org> 1234567890 +0100"
	whom = "Ç <c@example.org> 1234567891 -0830"
)

var (
	modes    = []string{"100644", "100755", "120000", "40000", "160000"}
	kinds    = []int{api.KCommit, api.KTree, api.KBlob, api.KTag}
	notKinds = []int{0, 5, 6, 7, -1, math.MaxInt, math.MinInt}
)

// parses holds a body to the object that it is of.
func parses(t *testing.T, want object.Any, body string) {
	t.Helper()
	got, e := object.Parse(want.Kind(), []byte(body))
	if e != api.OK || !reflect.DeepEqual(got, want) {
		t.Errorf("%q: %#v, error %d; not %#v", body, got, e, want)
		return
	}
	if string(got.Bytes()) != body {
		t.Errorf("%q: back as %q", body, got.Bytes())
	}
}

func refused(t *testing.T, kind int, body string, want api.Errno) {
	t.Helper()
	if got, e := object.Parse(kind, []byte(body)); got != nil || e != want {
		t.Errorf("kind %d, %q: %#v, error %d; not error %d", kind, body, got, e, want)
	}
}

// stands holds an object to be one, and badly to be none, by what their bytes tell.
func stands(t *testing.T, a object.Any) {
	t.Helper()
	parses(t, a, string(a.Bytes()))
}

func badly(t *testing.T, a object.Any) {
	t.Helper()
	refused(t, a.Kind(), string(a.Bytes()), api.ErrForm)
}

func commit(parents ...string) object.Commit {
	return object.Commit{Tree: id1, Parents: parents, Author: who, Committer: whom, Message: "m"}
}

func tag(name string) object.Tag {
	return object.Tag{Object: id1, Type: api.KCommit, Name: name, Tagger: who, Message: "m"}
}

func tree(l ...api.Entry) object.Tree {
	return object.Tree{L: l}
}

func entry(mode, name string) api.Entry {
	return api.Entry{Mode: mode, Name: name, ID: id1}
}

func raw(id string) string {
	b, _ := hex.DecodeString(id)
	return string(b)
}

// 8.1

func TestKindsHaveNames(t *testing.T) {
	for i, name := range []string{"commit", "tree", "blob", "tag"} {
		kind, ok := object.Kind(name)
		if kind != i+1 || !ok || object.Name(i+1) != name {
			t.Errorf("%s: %d, %t; %q", name, kind, ok, object.Name(i+1))
		}
	}
	for _, kind := range notKinds {
		if s := object.Name(kind); s != "" {
			t.Errorf("%d: %q", kind, s)
		}
	}
	for _, name := range []string{"", " ", "Commit", "TREE", "blobs", "blo", "tag ", " tag", "ofs", "commit\x00", "1"} {
		if kind, ok := object.Kind(name); kind != 0 || ok {
			t.Errorf("%q: %d, %t", name, kind, ok)
		}
	}
}

func TestHeaders(t *testing.T) {
	for _, kind := range append(kinds, notKinds...) {
		for _, size := range []int{0, 1, 9, 10, 65536, math.MaxInt} {
			want := fmt.Sprintf("%s %d\x00", object.Name(kind), size)
			if h := object.Header(kind, size); string(h) != want {
				t.Errorf("%d, %d: %q", kind, size, h)
			}
		}
		for _, size := range []int{-1, -10, math.MinInt} {
			if h := object.Header(kind, size); string(h) != object.Name(kind)+" 0\x00" {
				t.Errorf("%d, %d: %q", kind, size, h)
			}
		}
	}
}

func TestIDsOfNothing(t *testing.T) {
	for kind, want := range map[int]string{
		api.KBlob: "e69de29bb2d1d6434b8b29ae775ad8c2e48c5391",
		api.KTree: "4b825dc642cb6eb9a060e54bf8d69288fbee4904",
	} {
		if got := object.ID(kind, nil); got != want {
			t.Errorf("%d: %s", kind, got)
		}
	}
}

func TestIDsAreHashesOfHeaderAndBody(t *testing.T) {
	for _, kind := range append(kinds, notKinds...) {
		for _, n := range []int{0, 1, 99, 100, 65536} {
			body := bytes.Repeat([]byte("\x00a"), n)[:n]
			want := sha1.Sum(fmt.Appendf(nil, "%s %d\x00%s", object.Name(kind), n, body))
			if got := object.ID(kind, body); got != hex.EncodeToString(want[:]) {
				t.Errorf("%d, %d bytes: %s", kind, n, got)
			}
		}
	}
}

// These are the IDs that Git gives.
func TestIDsAreThoseOfGit(t *testing.T) {
	const top = "5bf14321d4d0ed83cebe198f91abbdfd81e81f8f"
	const merged = "2ee9c334c70f5d30865567c7d04c8c53e1583022"
	parents := []string{"0ded2aed22fc9c4290e69f83522f8322b342ea20", "3784d63eadc62bc5de87dc3d50b3736bbd75f1b0"}
	for _, x := range []struct {
		a    object.Any
		want string
	}{
		{object.Blob{Data: []byte("hello\n")}, "ce013625030ba8dba906f756967f9e9ca394464a"},
		{tree(
			api.Entry{Mode: "100644", Name: "a.txt", ID: "ce013625030ba8dba906f756967f9e9ca394464a"},
			api.Entry{Mode: "40000", Name: "a", ID: "2b4c1d0c6f3c005f72eb2ecd2eb2a25edecf9a50"},
			api.Entry{Mode: "120000", Name: "link", ID: "8d14cbf983b3fad683171c9418998d9f68340823"},
			api.Entry{Mode: "100755", Name: "run", ID: "1a2485251c33a70432394c93fb89330ef214bfc9"},
			api.Entry{Mode: "40000", Name: "é", ID: "7b2f7d4183351f7a30a35c39e7111833be41b4da"},
		), top},
		{object.Commit{Tree: top, Author: who, Committer: whom, Message: "first\n\nmore é\n"}, "f064ca18bf3dc350c66ab9902f7b5476e5ebf3c3"},
		{object.Commit{Tree: top, Parents: parents, Author: who, Committer: whom, Message: "merge\n"}, merged},
		{object.Tag{Object: merged, Type: api.KCommit, Name: "v1", Tagger: whom, Message: "a tag\n"}, "dce681c55aa082206db3699b46f0da2c809e5ef9"},
	} {
		stands(t, x.a)
		if got := object.ID(x.a.Kind(), x.a.Bytes()); got != x.want {
			t.Errorf("%#v: %s, not %s", x.a, got, x.want)
		}
	}
}

func TestHashes(t *testing.T) {
	for _, s := range []string{id1, id2, id3, zero, strings.Repeat("f", 40), strings.Repeat("9", 40)} {
		if !object.Hash(s) {
			t.Error(s)
		}
	}
	for _, s := range []string{"", "0", id1[1:], id1[2:], id1 + "0", id1 + "00", id1 + id2, id1[1:] + " ", strings.ToUpper(id1), strings.Repeat("é", 20), strings.Repeat("٣", 20), strings.Repeat("0", 64)} {
		if object.Hash(s) {
			t.Errorf("%q", s)
		}
	}
	for at := range 40 {
		for c := range 256 {
			s := id2[:at] + string([]byte{byte(c)}) + id2[at+1:]
			if want := strings.IndexByte("0123456789abcdef", byte(c)) >= 0; object.Hash(s) != want {
				t.Errorf("%q", s)
			}
		}
	}
}

// 8.2

func TestKindsOfObjects(t *testing.T) {
	for want, a := range map[int]object.Any{
		api.KCommit: object.Commit{}, api.KTree: object.Tree{}, api.KBlob: object.Blob{}, api.KTag: object.Tag{},
	} {
		if a.Kind() != want {
			t.Errorf("%T: %d", a, a.Kind())
		}
	}
}

// Bytes are those of what stands in the object, be it valid or not.
func TestBytes(t *testing.T) {
	for _, x := range []struct {
		a    object.Any
		want string
	}{
		{object.Blob{}, ""},
		{object.Blob{Data: []byte("a\x00b\n")}, "a\x00b\n"},
		{object.Tree{}, ""},
		{tree(entry("100644", "b"), api.Entry{Mode: "40000", Name: "a", ID: id2}), "100644 b\x00" + raw(id1) + "40000 a\x00" + raw(id2)},
		{tree(api.Entry{}), " \x00" + raw(zero)},
		{tree(api.Entry{Mode: "1 2", Name: "\x00/", ID: strings.ToUpper(id1)}), "1 2 \x00/\x00" + raw(zero)},
		{tree(api.Entry{Mode: "m", Name: "n", ID: id1 + "00"}, api.Entry{Mode: "m", Name: "n", ID: id1[2:]}), "m n\x00" + raw(zero) + "m n\x00" + raw(zero)},
		{tree(api.Entry{Mode: "m", Name: "n", ID: id1[1:]}, entry("m", "n")), "m n\x00" + raw(zero) + "m n\x00" + raw(id1)},
		{object.Commit{}, "tree \nauthor \ncommitter \n\n"},
		{commit(), "tree " + id1 + "\nauthor " + who + "\ncommitter " + whom + "\n\nm"},
		{object.Commit{Tree: "t", Parents: []string{"p", "", "p"}, Author: "a\n", Committer: "c", Message: "\n\x00\xff\n"}, "tree t\nparent p\nparent \nparent p\nauthor a\n\ncommitter c\n\n\n\x00\xff\n"},
		{object.Tag{}, "object \ntype \ntag \ntagger \n\n"},
		{tag("v"), "object " + id1 + "\ntype commit\ntag v\ntagger " + who + "\n\nm"},
		{object.Tag{Object: "o", Type: api.KTag, Name: "\n", Tagger: "g", Message: "l\nl\n"}, "object o\ntype tag\ntag \n\ntagger g\n\nl\nl\n"},
		{object.Tag{Type: 5}, "object \ntype \ntag \ntagger \n\n"},
	} {
		if got := x.a.Bytes(); string(got) != x.want {
			t.Errorf("%#v: %q, not %q", x.a, got, x.want)
		}
	}
}

// 8.3

func TestKindsAreLookedAtFirst(t *testing.T) {
	for _, kind := range notKinds {
		for _, body := range []string{"", "\xff", string(commit().Bytes())} {
			refused(t, kind, body, api.ErrArg)
		}
	}
}

// An object of a kind that isn't a blob is none of another one, but for nothing, which is a tree too.
func TestObjectsOfOtherKinds(t *testing.T) {
	for _, a := range []object.Any{tree(entry("100644", "a")), commit(id2), tag("v")} {
		for _, kind := range kinds {
			switch kind {
			case api.KBlob:
				parses(t, object.Blob{Data: a.Bytes()}, string(a.Bytes()))
			case a.Kind():
				stands(t, a)
			default:
				refused(t, kind, string(a.Bytes()), api.ErrForm)
			}
		}
	}
	parses(t, object.Tree{}, "")
	refused(t, api.KCommit, "", api.ErrForm)
	refused(t, api.KTag, "", api.ErrForm)
}

func TestBlobsAreValid(t *testing.T) {
	for _, s := range []string{"", "\x00", "\xff\xfe", "\n", strings.Repeat("long", 100000)} {
		var want object.Blob
		if s != "" {
			want.Data = []byte(s)
		}
		parses(t, want, s)
	}
}

func TestModes(t *testing.T) {
	for _, mode := range modes {
		stands(t, tree(entry(mode, "a")))
	}
	for _, mode := range []string{"", "0", "040000", "0100644", "100600", "100664", "100645", "10064", "1006440", "644", "400000", "4000", "40001", "160001", "120001", "+40000", "40000\x00", "\n40000"} {
		badly(t, tree(entry(mode, "a")))
	}
}

func TestNamesOfEntries(t *testing.T) {
	for _, name := range []string{"a", " ", " a ", "\n", "\t", "\x01", "\x7f", "\\", "<", "é", "世界", "😀", "\ufffd", "\u0080", "\ufeff", "...", "....", ". ", " .", ".a", ".gi", ".gitx", "git", "GIT", ".git ", " .git", ".git.", ".gitmodules", "g.it", ".gıt", ".gİt", ".ğit", ".ｇit", strings.Repeat("n", 70000)} {
		for _, mode := range modes {
			stands(t, tree(entry(mode, name)))
		}
	}
	for _, name := range []string{"", "/", "a/", "/a", "a/b", ".", "..", ".git", ".Git", ".gIt", ".giT", ".GIT", ".gIT", ".GiT", ".GIt", "\xff", "a\xc3", "\xa9", "\xed\xa0\x80", "\xf4\x90\x80\x80", "\xc0\xaf", "\xc0\x80"} {
		for _, mode := range modes {
			badly(t, tree(entry(mode, name)))
		}
	}
	for c := range 256 {
		name := "a" + string([]byte{byte(c)}) + "b"
		if c == '/' || c == 0 || c >= 128 {
			badly(t, tree(entry("100644", name)))
		} else {
			stands(t, tree(entry("100644", name)))
		}
	}
}

// A name of a folder counts as if a slash stood behind it.
func TestLess(t *testing.T) {
	ascending := []api.Entry{
		entry("100644", ""), entry("120000", "\x00"), entry("100644", "-"), entry("40000", ""), entry("100644", "0"), entry("100644", "A"), entry("100644", "a"), entry("40000", "a\x00"), entry("100644", "a b"), entry("40000", "a-"), entry("160000", "a-b"), entry("100755", "a."), entry("40000", "a"), entry("100644", "a/b"), entry("120000", "a0"), entry("100644", "aa"), entry("40000", "aa"), entry("100644", "b"), entry("40000", "é"), entry("100644", "\xff"),
	}
	for i, a := range ascending {
		for j, b := range ascending {
			if object.Less(a, b) != (i < j) {
				t.Errorf("%q of %s, %q of %s", a.Name, a.Mode, b.Name, b.Mode)
			}
		}
	}
	same := []api.Entry{entry("100644", "a/"), entry("40000", "a"), {Mode: "40000", Name: "a", ID: id2}, {Name: "a/"}}
	for _, a := range same {
		for _, b := range same {
			if object.Less(a, b) {
				t.Errorf("%q of %s, %q of %s", a.Name, a.Mode, b.Name, b.Mode)
			}
		}
	}
	if object.Less(entry("040000", "a"), entry("100644", "a")) || !object.Less(entry("040000", "a"), entry("100644", "a-")) {
		t.Error("only the mode 40000 is that of a folder")
	}
}

// Of entries out of order, and of a name that is there twice, there is no tree.
func TestOrderOfEntries(t *testing.T) {
	file, folder := "100644", "40000"
	stands(t, tree(entry(file, "a"), entry(file, "a-"), entry(folder, "b"), entry(file, "b0")))
	stands(t, tree(entry(file, "a-"), entry(folder, "a"), entry(file, "a0")))
	stands(t, tree(entry(file, "a."), entry(folder, "a"), entry(file, "b")))
	for _, l := range [][]api.Entry{
		{entry(file, "b"), entry(file, "a")},
		{entry(file, "a"), entry(file, "c"), entry(file, "b")},
		{entry(folder, "a"), entry(file, "a-")},
		{entry(file, "a0"), entry(folder, "a")},
		{entry(file, "ab"), entry(file, "a")},
		{entry(file, "é"), entry(file, "z")},
		{entry(file, "a"), entry(file, "a")},
		{entry(folder, "a"), entry(folder, "a")},
		{entry(folder, "a"), entry(file, "a")},
		{entry(file, "a"), entry("100755", "a")},
		{entry(file, "a"), {Mode: file, Name: "a", ID: id2}},
		{entry(file, "a"), entry(folder, "a")},
		{entry(file, "a"), entry(file, "a-"), entry(folder, "a")},
		{entry(file, "a"), entry(file, "a "), entry(file, "a-"), entry(folder, "a."), entry(folder, "a")},
		{entry("160000", "a"), entry(file, "a\x01"), entry(folder, "a"), entry(file, "a0")},
		{entry(file, "a"), entry(file, "a"), entry(file, "b")},
	} {
		badly(t, object.Tree{L: l})
	}
}

func TestIDsOfEntries(t *testing.T) {
	stands(t, tree(api.Entry{Mode: "100644", Name: "a", ID: id3}))
	stands(t, tree(api.Entry{Mode: "100644", Name: "a", ID: "01" + zero[2:]}))
	for _, mode := range modes {
		badly(t, tree(api.Entry{Mode: mode, Name: "a", ID: zero}))
		badly(t, tree(entry(mode, "0"), api.Entry{Mode: mode, Name: "a", ID: zero}, entry(mode, "b")))
	}
}

// Bytes of an ID may look like anything else.
func TestIDsOfBlanksAndZeros(t *testing.T) {
	stands(t, tree(api.Entry{Mode: "100644", Name: "a", ID: strings.Repeat("20", 20)}, api.Entry{Mode: "100644", Name: "b", ID: strings.Repeat("00", 10) + strings.Repeat("2f", 10)}, entry("40000", "c")))
}

func TestTornTrees(t *testing.T) {
	first := tree(entry("100644", "a")).Bytes()
	b := tree(entry("100644", "a"), entry("40000", "b")).Bytes()
	for n := 1; n < len(b); n++ {
		if n != len(first) {
			refused(t, api.KTree, string(b[:n]), api.ErrForm)
		}
	}
	for _, more := range []string{" ", "\x00", "1", " \x00", "100644 c", "100644 c\x00", "100644"} {
		refused(t, api.KTree, string(b)+more, api.ErrForm)
	}
	refused(t, api.KTree, "100644  a\x00"+raw(id1)[:19], api.ErrForm)
}

func TestHashesOfCommits(t *testing.T) {
	stands(t, commit())
	stands(t, commit(id1))
	stands(t, commit(id2, id1, id3))
	stands(t, commit(zero, id1))
	c := commit()
	c.Tree = zero
	stands(t, c)
	for _, s := range []string{"", id1[1:], id1 + "0", strings.ToUpper(id1), " " + id1[1:], id1 + " ", id1 + "\r", "x" + id1[1:]} {
		c := commit(id2)
		c.Tree = s
		badly(t, c)
		badly(t, commit(s))
		badly(t, commit(id2, s))
		badly(t, commit(s, id2))
		badly(t, commit(id3, s, id2))
	}
	badly(t, commit(id1, id1))
	badly(t, commit(id2, id3, id2))
	badly(t, commit(id3, id1, id2, id1))
}

func TestPersonsOfCommits(t *testing.T) {
	for _, s := range []string{" <> 0 +0000", whom} {
		c := commit(id2)
		c.Author = s
		stands(t, c)
		c = commit(id2)
		c.Committer = s
		stands(t, c)
	}
	for _, s := range []string{"", "A", "A <a> 01 +0000", "A <a> 1 +0000 ", "\nA <a> 1 +0000", "A\n <a> 1 +0000", "A\xff <a> 1 +0000"} {
		c := commit(id2)
		c.Author = s
		badly(t, c)
		c = commit(id2)
		c.Committer = s
		badly(t, c)
	}
}

func TestMessages(t *testing.T) {
	for _, s := range []string{"", "\n", "\n\n", "m\n", "\x01\x7f", "\r\n", "é世😀\ufffd", "tree " + id1 + "\nparent " + id1 + "\n", strings.Repeat("long\n", 20000)} {
		c, g := commit(id2), tag("v")
		c.Message, g.Message = s, s
		stands(t, c)
		stands(t, g)
	}
	for _, s := range []string{"\x00", "m\x00", "\x00m", "\xff", "é\xc3", "\xed\xa0\x80", "\xc0\x80", "m\xf4\x90\x80\x80m"} {
		c, g := commit(id2), tag("v")
		c.Message, g.Message = s, s
		badly(t, c)
		badly(t, g)
	}
}

// Lines that are missing, that stand elsewhere, or of which the document knows nothing.
func TestLinesOfCommits(t *testing.T) {
	tr, p, a, c := "tree "+id1+"\n", "parent "+id2+"\n", "author "+who+"\n", "committer "+whom+"\n"
	parses(t, commit(id2), tr+p+a+c+"\nm")
	for _, s := range []string{
		p + a + c + "\nm", tr + p + c + "\nm", tr + p + a + "\nm", tr + p + a + c + "m", tr + p + a + c,
		p + tr + a + c + "\nm", tr + a + p + c + "\nm", tr + a + c + p + "\nm", tr + p + c + a + "\nm", a + c + tr + p + "\nm",
		tr + tr + p + a + c + "\nm", tr + p + a + a + c + "\nm", tr + p + a + c + c + "\nm", tr + p + "\n" + a + c + "\nm", "\n" + tr + p + a + c + "\nm",
		tr + p + a + c + "encoding x\n\nm", tr + p + a + c + "gpgsig x\n y\n\nm", tr + p + a + c + " \nm", tr + p + a + c + "\r\nm",
		strings.ReplaceAll(tr+p+a+c+"\nm", "\n", "\r\n"), strings.ReplaceAll(tr+p+a+c+"\nm", "\n", ""),
		"tree" + tr[5:] + p + a + c + "\nm", "Tree" + tr[4:] + p + a + c + "\nm", "tree  " + tr[5:] + p + a + c + "\nm", tr[5:] + p + a + c + "\nm",
		tr + p[7:] + a + c + "\nm", tr + "Parent" + p[6:] + a + c + "\nm", tr + p + a[7:] + c + "\nm", tr + p + a + c[10:] + "\nm", tr + p + "author" + a[7:] + c + "\nm", tr + p + "tagger" + a[6:] + c + "\nm",
		tr + p + "parent \n" + a + c + "\nm", tr + "parent\n" + a + c + "\nm", tr + "parents " + id2 + "\n" + a + c + "\nm",
	} {
		refused(t, api.KCommit, s, api.ErrForm)
	}
	b := tr + p + a + c + "\n"
	for n := range b {
		refused(t, api.KCommit, b[:n], api.ErrForm)
	}
}

func TestLinesOfTags(t *testing.T) {
	o, y, n, g := "object "+id1+"\n", "type commit\n", "tag v\n", "tagger "+who+"\n"
	parses(t, tag("v"), o+y+n+g+"\nm")
	for _, s := range []string{
		y + n + g + "\nm", o + n + g + "\nm", o + y + g + "\nm", o + y + n + "\nm", o + y + n + g + "m", o + y + n + g,
		y + o + n + g + "\nm", o + n + y + g + "\nm", o + y + g + n + "\nm",
		o + o + y + n + g + "\nm", o + y + y + n + g + "\nm", o + y + n + n + g + "\nm", o + y + n + g + g + "\nm", o + y + n + g + "x y\n\nm", o + y + n + g + " \nm",
		strings.ReplaceAll(o+y+n+g+"\nm", "\n", "\r\n"), "object" + o[7:] + y + n + g + "\nm", o[7:] + y + n + g + "\nm",
		o + "commit\n" + n + g + "\nm", o + "type\n" + n + g + "\nm", o + "type \n" + n + g + "\nm", o + y + "v\n" + g + "\nm", o + y + n + g[7:] + "\nm", o + y + n + "author" + g[6:] + "\nm",
	} {
		refused(t, api.KTag, s, api.ErrForm)
	}
	b := o + y + n + g + "\n"
	for n := range b {
		refused(t, api.KTag, b[:n], api.ErrForm)
	}
}

func TestFieldsOfTags(t *testing.T) {
	for _, kind := range kinds {
		g := tag("v")
		g.Type = kind
		stands(t, g)
	}
	for _, word := range []string{"", "1", "Commit", "commits", "ofs", "commit ", " commit", "\x00"} {
		refused(t, api.KTag, "object "+id1+"\ntype "+word+"\ntag v\ntagger "+who+"\n\nm", api.ErrForm)
	}
	g := tag("v")
	g.Object = zero
	stands(t, g)
	for _, s := range []string{"", id1[1:], id1 + "0", strings.ToUpper(id1), "x" + id1[1:], id1 + "\r"} {
		g.Object = s
		badly(t, g)
	}
	for s, ok := range map[string]bool{" <> 0 +0000": true, whom: true, "": false, "A": false, "A <a> 1 +000": false, "A <a> 1 +0000 ": false, "\nA <a> 1 +0000": false} {
		g := tag("v")
		g.Tagger = s
		if ok {
			stands(t, g)
		} else {
			badly(t, g)
		}
	}
}

func TestNamesOfTags(t *testing.T) {
	for _, name := range []string{"v", " ", "v 1", "/", "..", "é", "\u0080", "\u009f", "\ufffd", "😀", "~^:?*[\\", strings.Repeat("v", 100), strings.Repeat("é", 100), strings.Repeat("😀", 100)} {
		stands(t, tag(name))
	}
	for _, name := range []string{"", strings.Repeat("v", 101), strings.Repeat("é", 101), strings.Repeat("😀", 101), strings.Repeat("v", 100000), "\xff", "v\xc3", "\xed\xa0\x80", strings.Repeat("\xff", 100)} {
		badly(t, tag(name))
	}
	for c := range 256 {
		name := "v" + string([]byte{byte(c)}) + "w"
		if c >= 32 && c < 127 {
			stands(t, tag(name))
		} else {
			badly(t, tag(name))
		}
	}
}

// 8.4

func TestPersons(t *testing.T) {
	for _, s := range []string{"A <a> 1 +0000", " <> 0 -0000", "  <> 0 +0000", "A  <a> 1 +0000", " A <a> 1 +0000", "A <a b> 1 +0000", "A < a > 1 +0000", "é世 <é😀> 999999999999 +9999", "\ufffd <\ufffd> 10 -1234", "\t\r\x01\x7f <\t\r\x01\x7f> 1 +0000", who, whom, strings.Repeat("long ", 20000) + "<" + strings.Repeat("long ", 20000) + "> 1 +0000"} {
		if !object.Person(s) {
			t.Errorf("%.60q", s)
		}
	}
	for _, s := range []string{
		"", " ", "<", ">", "<>", " <>", " <> ", " <> 0", " <> 0 ", " <> 0 +", " <> +0000", " <>  +0000", "<> 0 +0000", " <>0 +0000", " <> 0+0000", " > 0 +0000", " < 0 +0000", " >< 0 +0000",
		"A <a> 01 +0000", "A <a> 00 +0000", "A <a> 1000000000000 +0000", "A <a> 000000000000 +0000", "A <a> -1 +0000", "A <a> +1 +0000", "A <a> 1. +0000", "A <a> 1e1 +0000", "A <a> x +0000", "A <a> ٣ +0000", "A <a> １ +0000", "A <a> 1  +0000", "A <a>  1 +0000",
		"A <a> 1 +000", "A <a> 1 +00000", "A <a> 1 0000", "A <a> 1 00000", "A <a> 1 ±0000", "A <a> 1 *0000", "A <a> 1 ++000", "A <a> 1 +00:00", "A <a> 1 +000x", "A <a> 1 +x000", "A <a> 1 +٣٣", "A <a> 1 + 000", "A <a> 1 +0000 ", "A <a> 1 +0000\n", "A <a> 1 +0000\x00", "A <a> 1 +0000 +0000", "A <a> 1 1 +0000", "A <a> 1\n+0000",
		"A<a> 1 +0000", "A\t<a> 1 +0000", "A <a>\t1 +0000", "A <a> 1\t+0000", "A <a<> 1 +0000", "A <a>> 1 +0000", "A <a> > 1 +0000", "A <<a> 1 +0000", "A < <a> 1 +0000", "A < <a> 1 +0000", "A > <a> 1 +0000", "A> <a> 1 +0000", "A<b <a> 1 +0000", "A <a> <a> 1 +0000", "A <a> 1 +0000A <a> 1 +0000",
		"\n <a> 1 +0000", "A <\n> 1 +0000", "\x00 <a> 1 +0000", "A <\x00> 1 +0000", "\xff <a> 1 +0000", "A <\xff> 1 +0000", "\xc3 <a> 1 +0000", "A <\xc3> 1 +0000",
	} {
		if object.Person(s) {
			t.Errorf("%q", s)
		}
	}
}

func TestTimes(t *testing.T) {
	for n, s := 1, "1"; n <= 14; n, s = n+1, s+"0" {
		if object.Person("A <a> "+s+" +0000") != (n <= 12) || object.Person("A <a> 0"+s+" +0000") {
			t.Error(s)
		}
	}
}

func TestLinks(t *testing.T) {
	entries := []api.Entry{entry("40000", "f"), {Mode: "160000", Name: "m", ID: id2}, {Mode: "100644", Name: "a", ID: id3}, {Mode: "100755", Name: "b", ID: id2}, {Mode: "120000", Name: "c", ID: id1}, {Mode: "40000", Name: "g", ID: id3}, {Mode: "040000", Name: "?", ID: "?"}, {}}
	for _, x := range []struct {
		a    object.Any
		want []api.Link
	}{
		{object.Blob{Data: []byte(id1)}, nil},
		{object.Tree{}, nil},
		{tree(entry("160000", "m"), entry("160000", "n")), nil},
		{object.Tree{L: entries}, []api.Link{{ID: id1, Kind: api.KTree}, {ID: id3, Kind: api.KBlob}, {ID: id2, Kind: api.KBlob}, {ID: id1, Kind: api.KBlob}, {ID: id3, Kind: api.KTree}, {ID: "?", Kind: api.KBlob}, {Kind: api.KBlob}}},
		{commit(), []api.Link{{ID: id1, Kind: api.KTree}}},
		{commit(id2, id1, id2), []api.Link{{ID: id1, Kind: api.KTree}, {ID: id2, Kind: api.KCommit}, {ID: id1, Kind: api.KCommit}, {ID: id2, Kind: api.KCommit}}},
		{object.Commit{}, []api.Link{{Kind: api.KTree}}},
		{tag("v"), []api.Link{{ID: id1, Kind: api.KCommit}}},
		{object.Tag{Object: id2, Type: api.KBlob}, []api.Link{{ID: id2, Kind: api.KBlob}}},
		{object.Tag{Object: id2, Type: api.KTag}, []api.Link{{ID: id2, Kind: api.KTag}}},
		{object.Tag{Type: 9}, []api.Link{{Kind: 9}}},
	} {
		for _, got := range [][]api.Link{x.a.Links(), object.Links(x.a)} {
			if !slices.Equal(got, x.want) {
				t.Errorf("%#v: %v, not %v", x.a, got, x.want)
			}
		}
	}
	if l := object.Links(nil); len(l) != 0 {
		t.Error(l)
	}
}

// 8.5

func TestEqualBytesAreEqualObjects(t *testing.T) {
	empty := []byte{}
	for _, kind := range kinds {
		for _, body := range [][]byte{nil, empty, commit().Bytes(), commit(id2, id1).Bytes(), tag("v").Bytes(), tree(entry("100644", "a")).Bytes()} {
			a, e := object.Parse(kind, body)
			b, e2 := object.Parse(kind, slices.Clone(body))
			if e != e2 || !reflect.DeepEqual(a, b) {
				t.Errorf("%d, %q: %#v, %d; %#v, %d", kind, body, a, e, b, e2)
			}
			if e != api.OK {
				continue
			}
			again, e := object.Parse(a.Kind(), a.Bytes())
			if e != api.OK || !reflect.DeepEqual(again, a) {
				t.Errorf("%d, %q: %#v, not %#v", kind, body, again, a)
			}
		}
	}
	a, _ := object.Parse(api.KBlob, nil)
	b, _ := object.Parse(api.KBlob, empty)
	if !reflect.DeepEqual(a, b) {
		t.Errorf("%#v, %#v", a, b)
	}
}

// 8.6

// A made is an Any that keeps the links that it tells; an unmade one panics.
type made struct {
	object.Blob
	l []api.Link
}

func (m made) Links() []api.Link { return m.l }

type unmade struct{ object.Any }

func TestNoLinksOfWhatPanics(t *testing.T) {
	for i, a := range []object.Any{unmade{}, &unmade{}, (*object.Commit)(nil), (*object.Tree)(nil), (*made)(nil)} {
		if l := object.Links(a); len(l) != 0 {
			t.Error(i, l)
		}
	}
}

func TestLinksAreNew(t *testing.T) {
	kept := make([]api.Link, 2, 4)
	kept[0] = api.Link{ID: id1, Kind: api.KTree}
	kept[:3][2] = api.Link{ID: id3, Kind: api.KTag}
	before := slices.Clone(kept[:4])
	l := object.Links(made{l: kept})
	if !slices.Equal(l, before[:2]) {
		t.Error(l)
	}
	scribble(l)
	if !slices.Equal(kept[:4], before) {
		t.Error(kept[:4])
	}
	for _, a := range []object.Any{tree(entry("100644", "a"), entry("40000", "b")), commit(id2, id3), tag("v")} {
		want := slices.Clone(a.Links())
		scribble(a.Links())
		scribble(object.Links(a))
		if !slices.Equal(a.Links(), want) || !slices.Equal(object.Links(a), want) {
			t.Errorf("%#v", a)
		}
	}
}

// scribble writes over a slice and the spare capacity behind it.
func scribble[E any](s []E) {
	clear(s[:cap(s)])
}

func TestResultsAreNew(t *testing.T) {
	for _, a := range []object.Any{object.Blob{Data: []byte("text")}, tree(entry("100644", "a"), entry("40000", "b")), commit(id2, id3), tag("v")} {
		want := string(a.Bytes())
		scribble(a.Bytes())
		if string(a.Bytes()) != want {
			t.Errorf("%q, not %q", a.Bytes(), want)
		}
		body := append([]byte(want), "spare"...)
		b, e := object.Parse(a.Kind(), body[:len(want)])
		if string(body) != want+"spare" || e != api.OK {
			t.Errorf("%q, %d", body, e)
		}
		object.ID(a.Kind(), body[:len(want)])
		if string(body) != want+"spare" {
			t.Errorf("%q", body)
		}
		scribble(body)
		if string(b.Bytes()) != want {
			t.Errorf("%q, not %q", b.Bytes(), want)
		}
		scribble(b.Bytes())
		if string(b.Bytes()) != want {
			t.Errorf("%q, not %q", b.Bytes(), want)
		}
	}
	h := object.Header(api.KBlob, 1)
	scribble(h)
	if string(object.Header(api.KBlob, 1)) != "blob 1\x00" {
		t.Error("Header")
	}
}

// What one result has behind its end is no part of another one.
func TestSpareCapacities(t *testing.T) {
	blob := object.Blob{Data: append(make([]byte, 0, 20), "text"...)}
	scribble(blob.Bytes())
	if got := append(blob.Bytes(), '!'); string(got) != "text!" || string(blob.Data[:5]) != "text\x00" {
		t.Errorf("%q, %q", got, blob.Data[:5])
	}
	a, _ := object.Parse(api.KCommit, commit(id1, id2, id3).Bytes())
	b, _ := object.Parse(api.KCommit, commit(id1, id2, id3).Bytes())
	scribble(a.(object.Commit).Parents)
	if !reflect.DeepEqual(b, object.Any(commit(id1, id2, id3))) {
		t.Errorf("%#v", b)
	}
	a, _ = object.Parse(api.KTree, tree(entry("100644", "a")).Bytes())
	b, _ = object.Parse(api.KTree, tree(entry("100644", "a")).Bytes())
	scribble(a.(object.Tree).L)
	if !reflect.DeepEqual(b, object.Any(tree(entry("100644", "a")))) {
		t.Errorf("%#v", b)
	}
}

// Objects of many entries or parents take no more than a time that grows with them.
func TestLargeObjects(t *testing.T) {
	const n = 200000
	var names []string
	for i := range n {
		names = append(names, fmt.Sprint("n", i))
	}
	sort.Strings(names)
	var big object.Tree
	var parents []string
	for i, name := range names {
		big.L = append(big.L, entry("100644", name))
		parents = append(parents, fmt.Sprintf("%040x", i))
	}
	for _, a := range []object.Any{big, commit(parents...)} {
		got, e := object.Parse(a.Kind(), a.Bytes())
		if e != api.OK || !reflect.DeepEqual(got, a) {
			t.Errorf("%T: error %d", a, e)
		}
	}
	parents[n-1] = parents[0]
	last := &big.L[n-1]
	last.Mode, last.ID = "40000", zero
	for _, a := range []object.Any{big, commit(parents...)} {
		if got, e := object.Parse(a.Kind(), a.Bytes()); got != nil || e != api.ErrForm {
			t.Errorf("%T: error %d", a, e)
		}
	}
	for _, s := range []string{" ", "\x00", "\n", "<", "parent ", "parent \n", " \x00", "100644 a\x00", "\xff", " <", "> "} {
		long := strings.Repeat(s, n)
		for _, kind := range []int{api.KCommit, api.KTree, api.KTag} {
			if got, e := object.Parse(kind, []byte(long)); got != nil || e != api.ErrForm {
				t.Errorf("%d, %q: error %d", kind, s, e)
			}
		}
		if object.Person(long) || object.Hash(long) {
			t.Errorf("%q", s)
		}
	}
}
