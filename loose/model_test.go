package loose_test

import (
	"bytes"
	"crypto/sha1"
	"encoding/hex"
	"fmt"
	"slices"
	"strings"
	"testing"

	"stemma/api"
	"stemma/deflate"
	"stemma/fs"
)

var names = map[int]string{api.KCommit: "commit", api.KTree: "tree", api.KBlob: "blob", api.KTag: "tag"}

// The model says the chapter again, in another way: by formats, and by trying all heads that there can be.

func modelText(kind int, body string) string {
	return fmt.Sprintf("%s %d\x00%s", names[kind], len(body), body)
}

func modelID(kind int, body string) string {
	h := sha1.Sum([]byte(modelText(kind, body)))
	return hex.EncodeToString(h[:])
}

func modelPath(id string) string {
	return fmt.Sprintf("objects/%s/%s", id[:2], id[2:])
}

func modelFile(kind int, body string) []byte {
	return deflate.Zlib([]byte(modelText(kind, body)), 2)
}

// modelParse tells what a decompressed text is of.
func modelParse(text string) (int, string, api.Errno) {
	for kind := range names {
		for n := range len(text) {
			if body := text[len(text)-n:]; text == modelText(kind, body) {
				return kind, body, api.OK
			}
		}
	}
	return 0, "", api.ErrForm
}

// modelWrite makes the calls of 9.2, one by one.
func modelWrite(f *fs.FS, kind int, body string) (string, api.Errno) {
	id := modelID(kind, body)
	tmp, path := "tmp/"+id, modelPath(id)
	if slices.Contains(f.List(""), path) {
		return id, api.OK
	}
	calls := []func() api.Errno{
		func() api.Errno { return f.Create(tmp) },
		func() api.Errno { return f.Append(tmp, modelFile(kind, body)) },
		func() api.Errno { return f.Sync(tmp) },
		func() api.Errno { return f.Rename(tmp, path) },
		func() api.Errno { return f.SyncNames() },
	}
	if slices.Contains(f.List(""), tmp) {
		calls = slices.Insert(calls, 0, func() api.Errno { return f.Remove(tmp) })
	}
	for _, call := range calls {
		if e := call(); e != api.OK {
			return "", e
		}
	}
	return id, api.OK
}

// same fails if a call could tell f from g, whatever the crash that may come first.
func same(t *testing.T, f, g *fs.FS) {
	t.Helper()
	if f.Dead() != g.Dead() || f.Used() != g.Used() || left(f) != left(g) {
		t.Fatalf("dead %t, used %d, %d changes left; not %t, %d, %d", f.Dead(), f.Used(), left(f), g.Dead(), g.Used(), left(g))
	}
	if got, want := listing(f), listing(g); !slices.Equal(got, want) {
		t.Fatalf("%q, not %q", got, want)
	}
	for changes := range 9 {
		for _, data := range [][]int{nil, {1, 2, 3, 4, 5, 6}, {1 << 20, 1 << 20, 1 << 20, 1 << 20, 1 << 20}} {
			a, b := f.Copy(), g.Copy()
			a.Crash(changes, data)
			b.Crash(changes, data)
			if got, want := listing(a), listing(b); !slices.Equal(got, want) {
				t.Fatalf("after a crash that keeps %d, %v: %q, not %q", changes, data, got, want)
			}
		}
	}
}

// left tells how many changes there are before f dies; 99 is many.
func left(f *fs.FS) int {
	c := f.Copy()
	n := 0
	for n < 99 && c.SyncNames() == api.OK {
		n++
	}
	return n
}

// listing tells names and bytes in turn.
func listing(f *fs.FS) []string {
	var l []string
	for _, name := range f.List("") {
		b, _ := f.Read(name)
		l = append(l, name, string(b))
	}
	return l
}

// mended is a list of texts that differ from s in a byte that is another one, a new one or gone.
func mended(s string) []string {
	l := []string{s}
	for at := range len(s) + 1 {
		for c := range 256 {
			l = append(l, s[:at]+string([]byte{byte(c)})+s[at:])
		}
		if at == len(s) {
			break
		}
		l = append(l, s[:at]+s[at+1:])
		for c := range 256 {
			l = append(l, s[:at]+string([]byte{byte(c)})+s[at+1:])
		}
	}
	return l
}

// flipped is every text that differs from b in one bit.
func flipped(b []byte) [][]byte {
	var l [][]byte
	for i := range 8 * len(b) {
		c := bytes.Clone(b)
		c[i/8] ^= 1 << (i % 8)
		l = append(l, c)
	}
	return l
}

func long(n int) string {
	return strings.Repeat("0123456789abcdef\x00 \n", n/19+1)[:n]
}
