package ref_test

import (
	"fmt"
	"maps"
	"regexp"
	"slices"
	"strings"
	"testing"

	"stemma/api"
	"stemma/fs"
	"stemma/name"
	"stemma/ref"
)

const (
	zero = "0000000000000000000000000000000000000000"
	head = "# pack-refs with: peeled fully-peeled sorted \n"
)

var (
	hash      = regexp.MustCompile(`^[0-9a-f]{40}$`)
	looseText = regexp.MustCompile(`^([0-9a-f]{40})\n$`)
	lineText  = regexp.MustCompile(`(?m)^(\S*) (.*)$`)
	headText  = regexp.MustCompile(`^ref: (.*)\n$`)
)

// model says the chapter again, by maps and expressions: which refs the files of a file system are.
type model struct{ f *fs.FS }

// modelUnpacked writes again what it took for refs, and refuses what doesn't come out as it was.
func modelUnpacked(b string) (map[string]string, bool) {
	refs := map[string]string{}
	if b == "" {
		return refs, true
	}
	for _, x := range lineText.FindAllStringSubmatch(strings.TrimPrefix(b, head), -1) {
		if !hash.MatchString(x[1]) || !name.Valid(x[2]) {
			return nil, false
		}
		refs[x[2]] = x[1]
	}
	return refs, modelPacked(refs) == b
}

func modelPacked(refs map[string]string) string {
	s := head
	for _, n := range slices.Sorted(maps.Keys(refs)) {
		s += fmt.Sprintf("%s %s\n", refs[n], n)
	}
	return s
}

// loose tells the refs that have files of their own.
func (m model) loose() map[string]string {
	refs := map[string]string{}
	for _, n := range m.f.List("") {
		b, _ := m.f.Read(n)
		if x := looseText.FindStringSubmatch(string(b)); name.Valid(n) && x != nil {
			refs[n] = x[1]
		}
	}
	return refs
}

func (m model) refs() map[string]string {
	b, _ := m.f.Read("packed-refs")
	refs, _ := modelUnpacked(string(b))
	if refs == nil {
		refs = map[string]string{}
	}
	maps.Copy(refs, m.loose())
	return refs
}

func (m model) head() (string, api.Errno) {
	b, e := m.f.Read("HEAD")
	if e == api.ErrDead {
		return "", e
	}
	x := headText.FindStringSubmatch(string(b))
	if x == nil || !name.Valid(x[1]) {
		return "", api.ErrForm
	}
	return x[1], api.OK
}

// modelUpdate tells what Update answers, and the refs then, for as long as there is space.
func modelUpdate(refs map[string]string, l []api.Change) (map[string]string, int, api.Errno) {
	then := maps.Clone(refs)
	for i, c := range l {
		before := slices.ContainsFunc(l[:i], func(x api.Change) bool { return x.Name == c.Name })
		if before || !name.Valid(c.Name) || c.Old != "" && !hash.MatchString(c.Old) || c.New != "" && (!hash.MatchString(c.New) || c.New == zero) {
			return refs, i, api.ErrArg
		}
		then[c.Name] = c.New
		if c.New == "" {
			delete(then, c.Name)
		}
	}
	for i, c := range l {
		id, ok := refs[c.Name]
		if c.Old == zero && ok || c.Old != "" && c.Old != zero && c.Old != id {
			return refs, i, api.ErrStale
		}
	}
	for i, c := range l {
		for n := range then {
			if c.New != "" && (strings.HasPrefix(n, c.Name+"/") || strings.HasPrefix(c.Name, n+"/")) {
				return refs, i, api.ErrUnder
			}
		}
	}
	return then, len(l), api.OK
}

// agrees fails unless the calls that only read tell what the model tells.
func agrees(t *testing.T, r *ref.Refs, f *fs.FS, names ...string) {
	t.Helper()
	was := listing(f)
	want := model{f}.refs()
	if got := refsOf(r); !maps.Equal(got, want) {
		t.Fatalf("refs %v, not %v", got, want)
	}
	if s, e := r.Head(); func() bool { want, wantE := model{f}.head(); return s != want || e != wantE }() {
		t.Fatalf("HEAD %q, %v", s, e)
	}
	for _, n := range append(names, f.List("")...) {
		id, ok := want[n]
		if got, there := r.Get(n); got != id || there != ok {
			t.Fatalf("%q: %q, %v; not %q, %v", n, got, there, id, ok)
		}
		for _, prefix := range []string{n, n[:len(n)/2], n + "/"} {
			l := r.List(prefix)
			for i, x := range l {
				if !strings.HasPrefix(x.Name, prefix) || want[x.Name] != x.ID || i > 0 && l[i-1].Name >= x.Name {
					t.Fatalf("%q: %v", prefix, l)
				}
			}
			if n := len(slices.DeleteFunc(slices.Collect(maps.Keys(want)), func(n string) bool { return !strings.HasPrefix(n, prefix) })); len(l) != n {
				t.Fatalf("%q: %v, not %d", prefix, l, n)
			}
		}
	}
	if now := listing(f); !slices.Equal(now, was) {
		t.Fatalf("%q, not %q", now, was)
	}
}

// refsOf tells what List tells of all refs, which must ascend.
func refsOf(r *ref.Refs) map[string]string {
	refs := map[string]string{}
	last := ""
	for _, x := range r.List("") {
		if x.Name <= last {
			panic(x.Name + " behind " + last)
		}
		refs[x.Name], last = x.ID, x.Name
	}
	return refs
}

// The rest makes inputs.

func id(c byte) string {
	return strings.Repeat(string(rune(c)), 40)
}

// disk makes a file system of these names and texts, in turn.
func disk(t *testing.T, files ...string) *fs.FS {
	t.Helper()
	return sized(t, 1<<24, files...)
}

// small makes one that fill can fill up.
func small(t *testing.T, files ...string) *fs.FS {
	t.Helper()
	return sized(t, 1<<12, files...)
}

// fill leaves so many bytes of room.
func fill(t *testing.T, f *fs.FS, room int) {
	t.Helper()
	put(t, f, "big", strings.Repeat("x", 1<<12-f.Used()-room))
}

func sized(t *testing.T, quota int, files ...string) *fs.FS {
	t.Helper()
	f, e := fs.New(quota)
	if e != api.OK {
		t.Fatal(e)
	}
	for i := 0; i < len(files); i += 2 {
		put(t, f, files[i], files[i+1])
	}
	return f
}

// put makes a file that is durable, instead of any that has the name.
func put(t *testing.T, f *fs.FS, name, text string) {
	t.Helper()
	f.Remove(name)
	if e := makes(
		func() api.Errno { return f.Create(name) },
		func() api.Errno { return f.Append(name, []byte(text)) },
		func() api.Errno { return f.Sync(name) },
		f.SyncNames,
	); e != api.OK {
		t.Fatalf("%q: %v", name, e)
	}
}

func makes(calls ...func() api.Errno) api.Errno {
	for _, call := range calls {
		if e := call(); e != api.OK {
			return e
		}
	}
	return api.OK
}

func open(t *testing.T, f *fs.FS) *ref.Refs {
	t.Helper()
	r, e := ref.Open(f)
	if e != api.OK || r == nil {
		t.Fatal(e)
	}
	return r
}

// updates makes changes that succeed: name, Old and New of each, in turn.
func updates(t *testing.T, r *ref.Refs, words ...string) {
	t.Helper()
	answers(t, r, len(words)/3, api.OK, words...)
}

// answers fails unless the Update of these changes answers this.
func answers(t *testing.T, r *ref.Refs, n int, e api.Errno, words ...string) {
	t.Helper()
	if gotN, gotE := r.Update(changes(words...)); gotN != n || gotE != e {
		t.Errorf("%q: %d, %v; not %d, %v", words, gotN, gotE, n, e)
	}
}

func changes(words ...string) []api.Change {
	var l []api.Change
	for i := 0; i < len(words); i += 3 {
		l = append(l, api.Change{Name: words[i], Old: words[i+1], New: words[i+2]})
	}
	return l
}

// has fails unless there are exactly these refs: name and ID of each, in turn.
func has(t *testing.T, r *ref.Refs, words ...string) {
	t.Helper()
	var l []api.Ref
	for i := 0; i < len(words); i += 2 {
		l = append(l, api.Ref{Name: words[i], ID: words[i+1]})
	}
	if got := r.List(""); !slices.Equal(got, l) {
		t.Errorf("%v, not %v", got, l)
	}
}

// listing tells names and bytes in turn.
func listing(f *fs.FS) []string {
	var l []string
	for _, name := range f.List("") {
		b, _ := f.Read(name)
		l = append(l, name, string(b))
	}
	return l
}

func reads(t *testing.T, f *fs.FS, name, want string) {
	t.Helper()
	if b, e := f.Read(name); string(b) != want || e != api.OK {
		t.Errorf("%q: %q, %v; not %q", name, b, e, want)
	}
}

// die makes a file system dead.
func die(f *fs.FS) {
	f.Fuse(0)
	f.SyncNames()
}

// durable fails if a crash changes anything.
func durable(t *testing.T, f *fs.FS) {
	t.Helper()
	c := f.Copy()
	c.Crash(0, nil)
	if got, want := listing(c), listing(f); !slices.Equal(got, want) {
		t.Errorf("after a crash %q, not %q", got, want)
	}
}
