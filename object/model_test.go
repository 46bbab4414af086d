package object_test

import (
	"bytes"
	"encoding/hex"
	"math/rand"
	"reflect"
	"regexp"
	"slices"
	"strings"
	"testing"
	"unicode/utf8"

	"stemma/api"
	"stemma/object"
)

const person = `[^<>\n\x00]* <[^<>\n\x00]*> (?:0|[1-9][0-9]{0,11}) [+-][0-9]{4}`

var (
	personForm = regexp.MustCompile(`\A` + person + `\z`)
	commitForm = regexp.MustCompile(`\Atree ([0-9a-f]{40})\n((?:parent [0-9a-f]{40}\n)*)author (` + person + `)\ncommitter (` + person + `)\n\n([^\x00]*)\z`)
	tagForm    = regexp.MustCompile(`\Aobject ([0-9a-f]{40})\ntype (commit|tree|blob|tag)\ntag ([^\x00-\x1f\x7f]{1,100})\ntagger (` + person + `)\n\n([^\x00]*)\z`)
	entryForm  = regexp.MustCompile(`\A(?s:(100644|100755|120000|40000|160000) ([^/\x00]+)\x00([\x00-\x{10ffff}]*))\z`)
	gitForm    = regexp.MustCompile(`\A(?:\.|\.\.|\.[gG][iI][tT])\z`)
)

// modelParse tells by expressions what Parse has to tell; nil where there is no object.
func modelParse(kind int, body []byte) object.Any {
	switch kind {
	case api.KBlob:
		return object.Blob{Data: append([]byte(nil), body...)}
	case api.KTree:
		return modelTree(body)
	}
	if !utf8.Valid(body) {
		return nil
	}
	if kind == api.KTag {
		return modelTag(string(body))
	}
	return modelCommit(string(body))
}

func modelCommit(s string) object.Any {
	m := commitForm.FindStringSubmatch(s)
	if m == nil {
		return nil
	}
	c := object.Commit{Tree: m[1], Author: m[3], Committer: m[4], Message: m[5]}
	for i := 0; i < len(m[2]); i += 48 {
		p := m[2][i+7 : i+47]
		if slices.Contains(c.Parents, p) {
			return nil
		}
		c.Parents = append(c.Parents, p)
	}
	return c
}

func modelTag(s string) object.Any {
	m := tagForm.FindStringSubmatch(s)
	if m == nil {
		return nil
	}
	kind := 1 + slices.Index([]string{"commit", "tree", "blob", "tag"}, m[2])
	return object.Tag{Object: m[1], Type: kind, Name: m[3], Tagger: m[4], Message: m[5]}
}

// modelTree goes by the bytes, since those of IDs need not be characters.
func modelTree(b []byte) object.Any {
	var t object.Tree
	for len(b) > 0 {
		end := bytes.IndexByte(b, 0)
		if end < 0 || len(b) < end+21 || !utf8.Valid(b[:end]) {
			return nil
		}
		m := entryForm.FindSubmatch(b[:end+1])
		if m == nil || gitForm.Match(m[2]) || bytes.Count(b[end+1:end+21], []byte{0}) == 20 {
			return nil
		}
		t.L = append(t.L, api.Entry{Mode: string(m[1]), Name: string(m[2]), ID: hex.EncodeToString(b[end+1 : end+21])})
		b = b[end+21:]
	}
	for i, x := range t.L {
		for _, y := range t.L[:i] {
			if x.Name == y.Name || !modelLess(y, x) {
				return nil
			}
		}
	}
	return t
}

func modelLess(a, b api.Entry) bool {
	x, y := []byte(a.Name), []byte(b.Name)
	if a.Mode == "40000" {
		x = append(x, '/')
	}
	if b.Mode == "40000" {
		y = append(y, '/')
	}
	return bytes.Compare(x, y) < 0
}

// agrees tells whether there was an object, and holds Parse to the model.
func agrees(t *testing.T, kind int, body []byte) bool {
	t.Helper()
	want := modelParse(kind, body)
	got, e := object.Parse(kind, body)
	if want == nil {
		if got != nil || e != api.ErrForm {
			t.Errorf("kind %d, %q: %#v, error %d; not error %d", kind, body, got, e, api.ErrForm)
		}
		return false
	}
	if e != api.OK || !reflect.DeepEqual(got, want) || !bytes.Equal(got.Bytes(), body) {
		t.Errorf("kind %d, %q: %#v, error %d; not %#v", kind, body, got, e, want)
	}
	return true
}

func samples() []object.Any {
	return []object.Any{
		object.Commit{Tree: id1, Author: " <> 0 -0000", Committer: "é <é> 12 +0100"},
		object.Commit{Tree: id1, Parents: []string{id2, id1}, Author: "A <a> 1 +0000", Committer: "B <b> 2 +0000", Message: "m\n\né"},
		tree(entry("100644", "a"), entry("40000", "a-b"), entry("120000", "a0")),
		tree(entry("100644", ".gi"), entry("160000", "a."), entry("40000", "a"), entry("100755", "é")),
		object.Tag{Object: id1, Type: api.KTree, Name: "é", Tagger: "A <a> 10 +0000"},
		object.Tag{Object: id1, Type: api.KBlob, Name: "v 1", Tagger: " <> 0 -0000", Message: "\nm"},
	}
}

// At each place, each byte in place of the one there, and each byte more; and each one less.
func TestEachByteOfSamples(t *testing.T) {
	for _, a := range samples() {
		b, kind := a.Bytes(), a.Kind()
		if !agrees(t, kind, b) {
			t.Errorf("%#v", a)
		}
		for at := range b {
			agrees(t, kind, b[:at])
			agrees(t, kind, slices.Delete(slices.Clone(b), at, at+1))
			for c := range 256 {
				agrees(t, kind, slices.Replace(slices.Clone(b), at, at+1, byte(c)))
				agrees(t, kind, slices.Insert(slices.Clone(b), at, byte(c)))
			}
		}
	}
}

var scraps = []string{"", "\n", "\n\n", " ", "  ", "<", ">", " <", "> ", "\x00", "\xff", "é", "\xc3", "/", ".", "..", ".git", ".GIT", "-", "+", "+0000", "-0830", "0", "00", "01", "1", "123456789012", "1234567890123", "a", "a-", "a.", "a0", "b", id1, id2, id1[1:], zero, strings.ToUpper(id1), "tree ", "parent ", "author ", "committer ", "object ", "type ", "tag ", "tagger ", "commit", "blob", "tree " + id1 + "\n", "parent " + id1 + "\n", "parent " + id2 + "\n", "parent " + id3 + "\n", "author A <a> 1 +0000\n", "committer  <> 0 -0000\n", "object " + id2 + "\n", "type tag\n", "tag v\n", "tagger A <a> 1 +0000\n", "100644 ", "40000 ", "160000 ", "040000 ", "100644 a\x00" + raw(id1), "40000 a\x00" + raw(id2), "100644 a-\x00" + raw(id2), "160000 b\x00" + raw(id1), "100755 a\x00" + raw(zero)}

// edited has some pieces cut out, and some scraps or pieces of itself put in.
func edited(r *rand.Rand, b []byte) []byte {
	for range 1 + r.Intn(3) {
		at := r.Intn(len(b) + 1)
		to := min(len(b), at+r.Intn(4)*r.Intn(20))
		piece := []byte(scraps[r.Intn(len(scraps))])
		if r.Intn(4) == 0 {
			from := r.Intn(len(b) + 1)
			piece = slices.Clone(b[from:min(len(b), from+r.Intn(60))])
		}
		if r.Intn(2) == 0 {
			to = at
		}
		b = slices.Replace(slices.Clone(b), at, to, piece...)
	}
	return b
}

func TestEditedSamples(t *testing.T) {
	r := rand.New(rand.NewSource(8))
	all := samples()
	valid := 0
	for range 100000 {
		a := all[r.Intn(len(all))]
		if agrees(t, a.Kind(), edited(r, a.Bytes())) {
			valid++
		}
	}
	if valid < 1000 {
		t.Error(valid)
	}
}

// mostly tells the first choice, and now and then another one.
func mostly(r *rand.Rand, choices ...string) string {
	if r.Intn(12) > 0 {
		return choices[0]
	}
	return choices[r.Intn(len(choices))]
}

func randomTree(r *rand.Rand) []byte {
	names := []string{"a", "a-", "a.", "a0", "ab", "b", "b!", "é", "aé", "a", "b", "A"}
	var l []api.Entry
	for range r.Intn(7) {
		name := mostly(r, names[r.Intn(len(names))], "", ".", ".git", "a/", "/", "\xff", "..")
		mode := mostly(r, modes[r.Intn(len(modes))], "", "040000", "100664")
		l = append(l, api.Entry{Mode: mode, Name: name, ID: mostly(r, id1, id2, id3, zero)})
	}
	if r.Intn(6) > 0 {
		slices.SortFunc(l, func(a, b api.Entry) int {
			if modelLess(a, b) {
				return -1
			}
			if modelLess(b, a) {
				return 1
			}
			return 0
		})
	}
	return object.Tree{L: l}.Bytes()
}

func randomPerson(r *rand.Rand) string {
	s := mostly(r, "A", "", " ", "é", "<", ">", "\xff", "\n") + mostly(r, " <", "<", "<<", "  <") + mostly(r, "a", "", " ", "b ", "<", ">", "\x00", "é")
	return s + mostly(r, "> ", ">", ">  ", " ") + mostly(r, "1", "0", "00", "", "12", "999999999999", "1000000000000") + mostly(r, " ", "", "  ") + mostly(r, "+0000", "-9999", "0000", "+000", "+00000", "")
}

func randomCommit(r *rand.Rand) []byte {
	c := object.Commit{Tree: mostly(r, id1, id1[1:], zero, ""), Author: randomPerson(r), Committer: randomPerson(r), Message: mostly(r, "m", "", "\x00", "\xff", "\n")}
	for range r.Intn(4) {
		c.Parents = append(c.Parents, mostly(r, []string{id1, id2, id3, zero}[r.Intn(4)], id1+"0", ""))
	}
	return c.Bytes()
}

func randomTag(r *rand.Rand) []byte {
	n := 1 + r.Intn(104)
	name := mostly(r, "v", strings.Repeat("v", n), strings.Repeat("é", n), "", "\x1f", "\x7f", "\xff")
	return object.Tag{Object: mostly(r, id1, zero, "", id1[1:]), Type: r.Intn(20) % 6, Name: name, Tagger: randomPerson(r), Message: mostly(r, "m", "", "\x00", "\xff")}.Bytes()
}

func TestRandomObjects(t *testing.T) {
	r := rand.New(rand.NewSource(9))
	for i, body := range []func(*rand.Rand) []byte{randomTree, randomCommit, randomTag} {
		kind := []int{api.KTree, api.KCommit, api.KTag}[i]
		valid := 0
		for range 30000 {
			if agrees(t, kind, body(r)) {
				valid++
			}
		}
		if valid < 3000 || valid > 27000 {
			t.Errorf("kind %d: %d", kind, valid)
		}
	}
}

func TestEditedPersons(t *testing.T) {
	r := rand.New(rand.NewSource(10))
	valid := 0
	for i := range 200000 {
		s := randomPerson(r)
		if i%2 == 0 {
			s = string(edited(r, []byte(s)))
		}
		want := utf8.ValidString(s) && personForm.MatchString(s)
		if object.Person(s) != want {
			t.Errorf("%q: not %t", s, want)
		}
		if want {
			valid++
		}
	}
	if valid < 20000 {
		t.Error(valid)
	}
}

// All names of up to three of these bytes, as files and as folders.
func TestLessOfAllShortNames(t *testing.T) {
	var all []api.Entry
	var grow func(name string)
	grow = func(name string) {
		all = append(all, entry("100644", name), entry("40000", name))
		if len(name) < 3 {
			for _, c := range []byte("\x00.a/0\xff") {
				grow(name + string([]byte{c}))
			}
		}
	}
	grow("")
	for _, a := range all {
		for _, b := range all {
			if object.Less(a, b) != modelLess(a, b) {
				t.Errorf("%q of %s, %q of %s", a.Name, a.Mode, b.Name, b.Mode)
			}
		}
	}
}
