package odb_test

import (
	"bytes"
	"compress/zlib"
	"crypto/sha1"
	"encoding/hex"
	"fmt"
	"maps"
	"math/rand"
	"regexp"
	"slices"
	"sort"
	"strings"
	"testing"

	"stemma/api"
	"stemma/delta"
	"stemma/fs"
	"stemma/idx"
	"stemma/loose"
	"stemma/object"
	"stemma/odb"
	"stemma/pack"
)

// model says the chapter again, by the layers below alone: it reads every file whenever it needs something of it, and makes the changes one by one.
type model struct{ f *fs.FS }

// matches tells what an expression has between its first parentheses, for each name that it is for.
func (m model) matches(expression string) map[string]bool {
	l := map[string]bool{}
	whole := regexp.MustCompile("^" + expression + "$")
	for _, name := range m.f.List("") {
		if x := whole.FindStringSubmatch(name); x != nil {
			l[x[1]] = true
		}
	}
	return l
}

func (m model) packs() []string {
	l := m.matches(`objects/pack/pack-([0-9a-f]{40})\.pack`)
	indexes := m.matches(`objects/pack/pack-([0-9a-f]{40})\.idx`)
	maps.DeleteFunc(l, func(id string, _ bool) bool { return !indexes[id] })
	return slices.Sorted(maps.Keys(l))
}

func (m model) loose() []string {
	var l []string
	for name := range m.matches(`objects/([0-9a-f]{2}/[0-9a-f]{38})`) {
		l = append(l, strings.Replace(name, "/", "", 1))
	}
	sort.Strings(l)
	return l
}

func (m model) read(name string) []byte {
	b, _ := m.f.Read(name)
	return b
}

func (m model) ids() []string {
	all := map[string]bool{}
	for _, id := range m.loose() {
		all[id] = true
	}
	for _, p := range m.packs() {
		l, _, _ := idx.Parse(m.read(indexName(p)))
		for _, o := range l {
			all[o.ID] = true
		}
	}
	return slices.Sorted(maps.Keys(all))
}

func (m model) has(id string) bool {
	return slices.Contains(m.ids(), id)
}

func (m model) get(id string) (int, string, api.Errno) {
	if !regexp.MustCompile("^[0-9a-f]{40}$").MatchString(id) {
		return 0, "", api.ErrArg
	}
	if m.f.Dead() {
		return 0, "", api.ErrDead
	}
	if slices.Contains(m.loose(), id) {
		kind, b, e := loose.Read(m.f, id)
		return kind, string(b), e
	}
	last := api.ErrNone
	for _, p := range m.packs() {
		index := m.read(indexName(p))
		if at, ok := idx.Find(index, id); ok {
			return m.entry(p, at, id)
		}
		if _, _, e := idx.Parse(index); e != api.OK && last == api.ErrNone {
			last = e
		}
	}
	return 0, "", last
}

func (m model) entry(p string, at int, id string) (int, string, api.Errno) {
	raws, _, e := pack.Read(m.read(packName(p)))
	if e != api.OK {
		return 0, "", e
	}
	l, e := pack.Resolve(raws, nil)
	if e != api.OK {
		return 0, "", e
	}
	for _, o := range l {
		if o.At == at && o.ID == id {
			return o.Kind, string(o.Body), api.OK
		}
	}
	return 0, "", api.ErrSum
}

func (m model) check() api.Errno {
	if m.f.Dead() {
		return api.ErrDead
	}
	for _, id := range m.loose() {
		kind, body, e := loose.Read(m.f, id)
		if e == api.OK {
			_, e = object.Parse(kind, body)
		}
		if e != api.OK {
			return e
		}
	}
	for _, p := range m.packs() {
		raws, id, e := pack.Read(m.read(packName(p)))
		if e != api.OK {
			return e
		}
		listed, named, e := idx.Parse(m.read(indexName(p)))
		if e != api.OK {
			return e
		}
		l, e := pack.Resolve(raws, nil)
		if e != api.OK {
			return e
		}
		sort.Slice(l, func(i, j int) bool { return l[i].ID < l[j].ID })
		if len(l) != len(listed) || id != named || id != p {
			return api.ErrForm
		}
		for i, o := range l {
			if x := listed[i]; x.ID != o.ID || x.At != o.At || x.CRC != o.CRC {
				return api.ErrForm
			}
		}
		for _, o := range l {
			if _, e := object.Parse(o.Kind, o.Body); e != api.OK {
				return e
			}
		}
	}
	return api.OK
}

func (m model) put(kind int, body string) (string, api.Errno) {
	if id := modelID(kind, body); kind >= 1 && kind <= 4 && len(body) <= 65536 && m.has(id) {
		return id, api.OK
	}
	return loose.Write(m.f, kind, []byte(body))
}

func (m model) intake(b []byte) ([]string, api.Errno) {
	raws, _, e := pack.Read(b)
	if e != api.OK {
		return nil, e
	}
	var used []api.Object
	l, e := pack.Resolve(raws, func(id string) (int, []byte, bool) {
		kind, body, e := m.get(id)
		if e == api.OK {
			used = append(used, obj(kind, body))
		}
		return kind, []byte(body), e == api.OK
	})
	if e != api.OK || len(l) == 0 {
		return nil, e
	}
	for _, o := range l {
		if _, e := object.Parse(o.Kind, o.Body); e != api.OK {
			return nil, e
		}
	}
	if _, e := m.keep(append(used, l...)); e != api.OK {
		return nil, e
	}
	var ids []string
	for _, o := range pack.Order(l) {
		ids = append(ids, o.ID)
	}
	return ids, api.OK
}

// keep makes the calls of 13.2, and tells the pack's id. What a failure leaves below tmp/ goes, as far as that succeeds.
func (m model) keep(l []api.Object) (string, api.Errno) {
	if len(pack.Order(l)) > 4096 {
		return "", api.ErrBig
	}
	b := pack.Write(l, nil)
	if len(b) > 1<<20 {
		return "", api.ErrBig
	}
	raws, id, _ := pack.Read(b)
	placed, _ := pack.Resolve(raws, nil)
	index, _ := idx.Build(placed, id)
	e := makes(
		func() api.Errno { return m.f.Create("tmp/1") },
		func() api.Errno { return m.f.Append("tmp/1", b) },
		func() api.Errno { return m.f.Sync("tmp/1") },
		func() api.Errno { return m.f.Create("tmp/2") },
		func() api.Errno { return m.f.Append("tmp/2", index) },
		func() api.Errno { return m.f.Sync("tmp/2") },
		func() api.Errno { return m.f.Rename("tmp/1", packName(id)) },
		func() api.Errno { return m.f.Rename("tmp/2", indexName(id)) },
		func() api.Errno { return m.f.SyncNames() },
	)
	if e != api.OK {
		m.f.Remove("tmp/1")
		m.f.Remove("tmp/2")
		return "", e
	}
	return id, api.OK
}

func (m model) repack() api.Errno {
	if m.f.Dead() {
		return api.ErrDead
	}
	alone, packs := m.loose(), m.packs()
	if len(alone) == 0 && len(packs) < 2 {
		return api.OK
	}
	var l []api.Object
	for _, id := range m.ids() {
		kind, body, e := m.get(id)
		if e != api.OK {
			panic(e) // the model has no damaged stores to repack
		}
		l = append(l, obj(kind, body))
	}
	id, e := m.keep(l)
	if e != api.OK {
		return e
	}
	var calls []func() api.Errno
	remove := func(name string) {
		calls = append(calls, func() api.Errno { return m.f.Remove(name) })
	}
	for _, x := range alone {
		remove("objects/" + x[:2] + "/" + x[2:])
	}
	packs = slices.DeleteFunc(packs, func(p string) bool { return p == id })
	for _, p := range packs {
		remove(indexName(p))
	}
	for _, p := range packs {
		remove(packName(p))
	}
	return makes(append(calls, m.f.SyncNames)...)
}

func makes(calls ...func() api.Errno) api.Errno {
	for _, call := range calls {
		if e := call(); e != api.OK {
			return e
		}
	}
	return api.OK
}

// agrees fails unless the calls that only read tell what the model tells, for these IDs and for all that are there.
func agrees(t *testing.T, f *fs.FS, ids ...string) {
	t.Helper()
	m := model{f}
	was := listing(f)
	s := on(t, f)
	if got, want := s.Packs(), m.packs(); !slices.Equal(got, want) {
		t.Errorf("packs %q, not %q", got, want)
	}
	if got, want := s.IDs(), m.ids(); !slices.Equal(got, want) {
		t.Errorf("IDs %q, not %q", got, want)
	}
	if got, want := s.Check(), m.check(); got != want {
		t.Errorf("Check %v, not %v", got, want)
	}
	for _, id := range append(ids, m.ids()...) {
		if got, want := s.Has(id), m.has(id); got != want {
			t.Errorf("%q: %v, not %v", id, got, want)
		}
		kind, b, e := s.Get(id)
		wantKind, want, wantE := m.get(id)
		if kind != wantKind || string(b) != want || e != wantE {
			t.Errorf("%q: %d, %.40q, %v; not %d, %.40q, %v", id, kind, b, e, wantKind, want, wantE)
		}
	}
	if now := listing(f); !slices.Equal(now, was) {
		t.Errorf("%q, not %q", now, was)
	}
}

// same fails if a call could tell f from g by more than what the files below tmp/ are called, whatever the crash that may come first.
func same(t *testing.T, f, g *fs.FS) {
	t.Helper()
	if f.Dead() != g.Dead() || f.Used() != g.Used() || left(f) != left(g) || len(f.List("")) != len(g.List("")) {
		t.Fatalf("dead %t, %d files, used %d, %d changes left; not %t, %d, %d, %d", f.Dead(), len(f.List("")), f.Used(), left(f), g.Dead(), len(g.List("")), g.Used(), left(g))
	}
	if got, want := listing(f), listing(g); !slices.Equal(got, want) {
		t.Fatalf("%q, not %q", got, want)
	}
	for changes := range 12 {
		for _, n := range []int{0, 3, 1 << 20} {
			a, b := f.Copy(), g.Copy()
			data := slices.Repeat([]int{n}, 30)
			a.Crash(changes, data)
			b.Crash(changes, data)
			if got, want := listing(a), listing(b); !slices.Equal(got, want) || a.Used() != b.Used() {
				t.Fatalf("after a crash that keeps %d, %d: %q, not %q", changes, n, got, want)
			}
		}
	}
}

// left tells how many changes there are before f dies; 99 is many.
func left(f *fs.FS) int {
	c := f.Copy()
	n := 0
	for n < 99 && c.SyncNames() == api.OK {
		n++
	}
	return n
}

// listing tells names and bytes in turn, of the files that aren't below tmp/.
func listing(f *fs.FS) []string {
	var l []string
	for _, name := range f.List("") {
		if !strings.HasPrefix(name, "tmp/") {
			b, _ := f.Read(name)
			l = append(l, name, string(b))
		}
	}
	return l
}

// The rest makes inputs.

func packName(id string) string {
	return "objects/pack/pack-" + id + ".pack"
}

func indexName(id string) string {
	return "objects/pack/pack-" + id + ".idx"
}

func disk(t *testing.T, files ...string) *fs.FS {
	t.Helper()
	f, e := fs.New(1 << 24)
	if e != api.OK {
		t.Fatal(e)
	}
	for i := 0; i < len(files); i += 2 {
		put(t, f, files[i], files[i+1])
	}
	return f
}

// put makes a file that is durable, instead of any that has the name.
func put(t *testing.T, f *fs.FS, name, text string) {
	t.Helper()
	f.Remove(name)
	if e := makes(
		func() api.Errno { return f.Create(name) },
		func() api.Errno { return f.Append(name, []byte(text)) },
		func() api.Errno { return f.Sync(name) },
		f.SyncNames,
	); e != api.OK {
		t.Fatalf("%q: %v", name, e)
	}
}

func on(t *testing.T, f *fs.FS) *odb.Store {
	t.Helper()
	s, e := odb.Open(f)
	if e != api.OK || s == nil {
		t.Fatal(e)
	}
	return s
}

func modelID(kind int, body string) string {
	name := map[int]string{1: "commit", 2: "tree", 3: "blob", 4: "tag"}[kind]
	h := sha1.Sum([]byte(fmt.Sprintf("%s %d\x00%s", name, len(body), body)))
	return hex.EncodeToString(h[:])
}

func obj(kind int, body string) api.Object {
	return api.Object{Kind: kind, Body: []byte(body), ID: modelID(kind, body)}
}

func blobs(bodies ...string) []api.Object {
	var l []api.Object
	for _, b := range bodies {
		l = append(l, obj(api.KBlob, b))
	}
	return l
}

func idsOf(l []api.Object) []string {
	var ids []string
	for _, o := range l {
		ids = append(ids, o.ID)
	}
	return ids
}

func blobID(body string) string {
	return modelID(api.KBlob, body)
}

// stores makes the file of an object, and tells its ID.
func stores(t *testing.T, f *fs.FS, kind int, body string) string {
	t.Helper()
	id := modelID(kind, body)
	put(t, f, loose.Path(id), string(loose.File(kind, []byte(body))))
	return id
}

// packs makes the files of a pack of entries that are written already, and tells its id.
func packs(t *testing.T, f *fs.FS, entries ...string) string {
	t.Helper()
	b := packed(entries...)
	raws, id, e := pack.Read([]byte(b))
	l, e2 := pack.Resolve(raws, nil)
	index, e3 := idx.Build(l, id)
	if e != api.OK || e2 != api.OK || e3 != api.OK {
		t.Fatal(e, e2, e3)
	}
	put(t, f, packName(id), b)
	put(t, f, indexName(id), string(index))
	return id
}

// packed is a pack of entries that are written already.
func packed(entries ...string) string {
	n := len(entries)
	return summed("PACK\x00\x00\x00\x02" + string([]byte{0, 0, byte(n >> 8), byte(n)}) + strings.Join(entries, ""))
}

// summed adds the digest.
func summed(b string) string {
	h := sha1.Sum([]byte(b))
	return b + string(h[:])
}

func plain(kind int, body string) string {
	return string(pack.Head(kind, len(body))) + zip(body)
}

func blob(body string) string {
	return plain(api.KBlob, body)
}

// ofs is an entry for a text by another one, the entry of which begins so many bytes before.
func ofs(back int, from, to string) string {
	d := string(delta.Make([]byte(from), []byte(to)))
	return string(pack.Head(api.KOfs, len(d))) + string(pack.Back(back)) + zip(d)
}

// ref is one by the ID of a blob.
func ref(from, to string) string {
	d := string(delta.Make([]byte(from), []byte(to)))
	return string(pack.Head(api.KRef, len(d))) + unhex(blobID(from)) + zip(d)
}

func unhex(id string) string {
	h, _ := hex.DecodeString(id)
	return string(h)
}

// zip compresses by another package than the one in use.
func zip(text string) string {
	var b bytes.Buffer
	w := zlib.NewWriter(&b)
	w.Write([]byte(text))
	w.Close()
	return b.String()
}

func lines(from, to int) string {
	var b strings.Builder
	for i := from; i <= to; i++ {
		fmt.Fprintf(&b, "line %d of a text\n", i)
	}
	return b.String()
}

// noise is a text in which nothing repeats itself.
func noise(rnd *rand.Rand, n int) string {
	b := make([]byte, n)
	rnd.Read(b)
	return string(b)
}
