package fs_test

import (
	"bytes"
	"math"
	"slices"
	"strings"
	"testing"

	"stemma/api"
	"stemma/fs"
)

func open(t *testing.T, quota int) *fs.FS {
	t.Helper()
	f, e := fs.New(quota)
	if e != api.OK {
		t.Fatal(e)
	}
	return f
}

// must fails unless each call returned OK.
func must(t *testing.T, calls ...api.Errno) {
	t.Helper()
	for i, e := range calls {
		if e != api.OK {
			t.Fatalf("call %d: %v", i, e)
		}
	}
}

func want(t *testing.T, what string, got, e api.Errno) {
	t.Helper()
	if got != e {
		t.Errorf("%s: %v, not %v", what, got, e)
	}
}

// holds fails unless f has exactly these files: name, bytes, name, bytes ..
func holds(t *testing.T, f *fs.FS, files ...string) {
	t.Helper()
	var names []string
	used := 0
	for i := 0; i < len(files); i += 2 {
		names = append(names, files[i])
		used += len(files[i+1])
		if b, e := f.Read(files[i]); e != api.OK || string(b) != files[i+1] {
			t.Errorf("%q: %q, %v, not %q", files[i], b, e, files[i+1])
		}
	}
	if l := f.List(""); !slices.Equal(l, names) {
		t.Errorf("names %q, not %q", l, names)
	}
	if f.Used() != used {
		t.Errorf("used %d, not %d", f.Used(), used)
	}
}

func write(t *testing.T, f *fs.FS, name, text string) {
	t.Helper()
	must(t, f.Create(name), f.Append(name, []byte(text)))
}

// calls are all that return an error, on a file name.
var calls = map[string]func(f *fs.FS, name string) api.Errno{
	"Create":      func(f *fs.FS, name string) api.Errno { return f.Create(name) },
	"Append":      func(f *fs.FS, name string) api.Errno { return f.Append(name, []byte("x")) },
	"Read":        func(f *fs.FS, name string) api.Errno { _, e := f.Read(name); return e },
	"Sync":        func(f *fs.FS, name string) api.Errno { return f.Sync(name) },
	"Rename from": func(f *fs.FS, name string) api.Errno { return f.Rename(name, "z") },
	"Remove":      func(f *fs.FS, name string) api.Errno { return f.Remove(name) },
}

func badNames() []string {
	return []string{"", "\x00", "a\x00", "\x00a", "a\x00b", strings.Repeat("n", 201), strings.Repeat("n", 4000), strings.Repeat("n", 200) + "\x00"}
}

func goodNames() []string {
	return []string{"a", " ", "/", ".", "..", "a/b/c", "\x01", "\xff", "\xff\xfe", "ä", "a\nb", strings.Repeat("n", 200), strings.Repeat("\xff", 200)}
}

// 1.1

func TestNewTakesQuotas(t *testing.T) {
	for _, quota := range []int{0, 1, 1<<24 - 1, 1 << 24} {
		f, e := fs.New(quota)
		if e != api.OK || f == nil {
			t.Fatal(quota, e)
		}
		holds(t, f)
		if f.Dead() {
			t.Error("dead")
		}
	}
	for _, quota := range []int{-1, 1<<24 + 1, math.MinInt, math.MaxInt} {
		if f, e := fs.New(quota); f != nil || e != api.ErrArg {
			t.Error(quota, f, e)
		}
	}
}

func TestBadNames(t *testing.T) {
	for _, name := range badNames() {
		f := open(t, 100)
		write(t, f, "a", "xy")
		for what, call := range calls {
			want(t, what, call(f, name), api.ErrArg)
		}
		want(t, "to", f.Rename("a", name), api.ErrArg)
		want(t, "none to", f.Rename("none", name), api.ErrArg)
		want(t, "both", f.Rename(name, name), api.ErrArg)
		holds(t, f, "a", "xy")
	}
}

func TestGoodNames(t *testing.T) {
	f := open(t, 1000)
	for _, name := range goodNames() {
		must(t, f.Create(name), f.Append(name, []byte(name)), f.Sync(name))
	}
	names := goodNames()
	slices.Sort(names)
	var files []string
	for _, name := range names {
		files = append(files, name, name)
	}
	holds(t, f, files...)
	for _, name := range names {
		must(t, f.Rename(name, "moved"), f.Rename("moved", name), f.Remove(name))
	}
	holds(t, f)
}

func TestReadBesideAnErrorIsEmpty(t *testing.T) {
	f := open(t, 10)
	write(t, f, "a", "xy")
	for _, name := range []string{"", "b", "A", "a ", "aa"} {
		if b, e := f.Read(name); len(b) != 0 || e == api.OK {
			t.Errorf("%q: %q, %v", name, b, e)
		}
	}
}

func TestMissingAndPresentNames(t *testing.T) {
	f := open(t, 2)
	write(t, f, "b", "xy")
	for what, call := range calls {
		if what != "Create" {
			want(t, what, call(f, "a"), api.ErrNone)
			want(t, what, call(f, "c"), api.ErrNone)
		}
	}
	want(t, "Rename of none to itself", f.Rename("c", "c"), api.ErrNone)
	want(t, "Create", f.Create("b"), api.ErrThere)
	want(t, "Append over the quota of none", f.Append("c", make([]byte, 9)), api.ErrNone)
	want(t, "Append over the quota of a bad name", f.Append("", make([]byte, 9)), api.ErrArg)
	holds(t, f, "b", "xy")
}

func TestQuota(t *testing.T) {
	f := open(t, 10)
	write(t, f, "a", "1234")
	write(t, f, "b", "12345")
	want(t, "Append", f.Append("a", []byte("56")), api.ErrFull)
	holds(t, f, "a", "1234", "b", "12345")
	must(t, f.Append("a", []byte("5")), f.Append("b", nil), f.Create("c"), f.Append("c", nil))
	want(t, "Append", f.Append("c", []byte("1")), api.ErrFull)
	must(t, f.Remove("a"), f.Append("c", []byte("12345")))
	holds(t, f, "b", "12345", "c", "12345")
	must(t, f.Rename("b", "c"), f.Append("c", []byte("67890")))
	holds(t, f, "c", "1234567890")
	none := open(t, 0)
	must(t, none.Create("a"), none.Append("a", nil))
	want(t, "Append", none.Append("a", []byte("1")), api.ErrFull)
}

func TestCrashMayExceedTheQuota(t *testing.T) {
	f := open(t, 4)
	write(t, f, "a", "1234")
	must(t, f.Create("b"), f.Sync("a"), f.SyncNames(), f.Remove("a"), f.Append("b", []byte("5678")), f.Sync("b"))
	f.Crash(0, nil)
	holds(t, f, "a", "1234", "b", "5678")
	want(t, "Append", f.Append("a", nil), api.ErrFull)
	must(t, f.Remove("a"), f.Append("b", nil))
}

func TestAppendGathers(t *testing.T) {
	f := open(t, 1<<24)
	must(t, f.Create("a"))
	var all []byte
	for i := range 300 {
		b := bytes.Repeat([]byte{byte(i)}, i)
		all = append(all, b...)
		must(t, f.Append("a", b))
	}
	holds(t, f, "a", string(all))
	must(t, f.Append("a", make([]byte, 1<<24-len(all))))
	want(t, "Append", f.Append("a", []byte{0}), api.ErrFull)
}

func TestRenameReplaces(t *testing.T) {
	f := open(t, 100)
	write(t, f, "b", "old")
	write(t, f, "c", "new!")
	write(t, f, "a", "first")
	must(t, f.Rename("c", "b"))
	holds(t, f, "a", "first", "b", "new!")
	must(t, f.Rename("a", "d"), f.Rename("b", "b"))
	holds(t, f, "b", "new!", "d", "first")
	want(t, "Read", calls["Read"](f, "a"), api.ErrNone)
	must(t, f.Create("a"))
	holds(t, f, "a", "", "b", "new!", "d", "first")
}

func TestListTakesAPrefix(t *testing.T) {
	f := open(t, 100)
	for _, name := range []string{"b", "a", "ab", "a/x", "a/", "a/\xff", "B", "a0", "\xff", "\xff\xff", "\x01"} {
		must(t, f.Create(name))
	}
	for prefix, names := range map[string][]string{
		"":                       {"\x01", "B", "a", "a/", "a/x", "a/\xff", "a0", "ab", "b", "\xff", "\xff\xff"},
		"a":                      {"a", "a/", "a/x", "a/\xff", "a0", "ab"},
		"a/":                     {"a/", "a/x", "a/\xff"},
		"a/x":                    {"a/x"},
		"a/x/":                   nil,
		"A":                      nil,
		"\xff":                   {"\xff", "\xff\xff"},
		"\xff\xff":               {"\xff\xff"},
		"\xff\xff\xff":           nil,
		"\x00":                   nil,
		"a\x00":                  nil,
		strings.Repeat("a", 300): nil,
	} {
		if l := f.List(prefix); !slices.Equal(l, names) {
			t.Errorf("%q: %q", prefix, l)
		}
	}
}

func TestDead(t *testing.T) {
	f := open(t, 10)
	write(t, f, "a", "xy")
	f.Fuse(0)
	want(t, "SyncNames", f.SyncNames(), api.ErrDead)
	for what, call := range calls {
		for _, name := range append(badNames(), "a", "b") {
			want(t, what, call(f, name), api.ErrDead)
		}
	}
	want(t, "to", f.Rename("a", ""), api.ErrDead)
	want(t, "Append", f.Append("a", make([]byte, 99)), api.ErrDead)
	want(t, "SyncNames", f.SyncNames(), api.ErrDead)
	if b, _ := f.Read("a"); len(b) != 0 || len(f.List("")) != 0 || len(f.List("a")) != 0 || f.Used() != 2 || !f.Dead() {
		t.Error(b, f.List(""), f.Used(), f.Dead())
	}
	for _, k := range []int{-1, 5} {
		f.Fuse(k)
		want(t, "Sync of a dead one", f.Sync("a"), api.ErrDead)
		want(t, "SyncNames of a dead one", f.SyncNames(), api.ErrDead)
		want(t, "Rename of a dead one", f.Rename("a", "a"), api.ErrDead)
	}
	f.Crash(1, []int{2})
	holds(t, f, "a", "xy")
}

// 1.2

func TestFuseCountsChanges(t *testing.T) {
	changes := []func(f *fs.FS) api.Errno{
		func(f *fs.FS) api.Errno { return f.Create("c") },
		func(f *fs.FS) api.Errno { return f.Append("a", []byte("z")) },
		func(f *fs.FS) api.Errno { return f.Append("a", nil) },
		func(f *fs.FS) api.Errno { return f.Sync("a") },
		func(f *fs.FS) api.Errno { return f.Rename("a", "a") },
		func(f *fs.FS) api.Errno { return f.Rename("b", "d") },
		func(f *fs.FS) api.Errno { return f.SyncNames() },
		func(f *fs.FS) api.Errno { return f.Remove("a") },
	}
	for k := range changes {
		f := open(t, 10)
		write(t, f, "a", "xy")
		write(t, f, "b", "")
		f.Fuse(k)
		for i, change := range changes {
			e := api.OK
			if i >= k {
				e = api.ErrDead
			}
			want(t, "change", change(f), e)
			if f.Dead() != (i >= k) {
				t.Error("dead", k, i)
			}
		}
	}
}

func TestFuseCountsNothingElse(t *testing.T) {
	f := open(t, 3)
	write(t, f, "a", "xy")
	f.Fuse(1)
	for range 3 {
		want(t, "Create", f.Create("a"), api.ErrThere)
		want(t, "Create", f.Create(""), api.ErrArg)
		want(t, "Append", f.Append("b", nil), api.ErrNone)
		want(t, "Append", f.Append("a", []byte("xy")), api.ErrFull)
		want(t, "Sync", f.Sync("b"), api.ErrNone)
		want(t, "Rename", f.Rename("b", "b"), api.ErrNone)
		want(t, "Rename", f.Rename("a", ""), api.ErrArg)
		want(t, "Remove", f.Remove("b"), api.ErrNone)
		want(t, "Read", calls["Read"](f, "b"), api.ErrNone)
		holds(t, f, "a", "xy")
		f = f.Copy()
	}
	must(t, f.Sync("a"))
	for range 3 {
		want(t, "spent: Create", f.Create("a"), api.ErrThere)
		want(t, "spent: Append", f.Append("a", []byte("xy")), api.ErrFull)
		want(t, "spent: Remove", f.Remove("b"), api.ErrNone)
		holds(t, f, "a", "xy")
	}
	want(t, "Sync", f.Sync("a"), api.ErrDead)
}

func TestFusedChangeHasNoEffect(t *testing.T) {
	for what, change := range map[string]func(f *fs.FS) api.Errno{
		"Create":    func(f *fs.FS) api.Errno { return f.Create("c") },
		"Append":    func(f *fs.FS) api.Errno { return f.Append("a", []byte("z")) },
		"Sync":      func(f *fs.FS) api.Errno { return f.Sync("a") },
		"Rename":    func(f *fs.FS) api.Errno { return f.Rename("a", "b") },
		"Remove":    func(f *fs.FS) api.Errno { return f.Remove("a") },
		"SyncNames": func(f *fs.FS) api.Errno { return f.SyncNames() },
	} {
		f := open(t, 10)
		write(t, f, "a", "xy")
		write(t, f, "b", "1")
		f.Fuse(0)
		want(t, what, change(f), api.ErrDead)
		if f.Used() != 3 {
			t.Error(what, f.Used())
		}
		short, long := f.Copy(), f.Copy()
		f.Crash(99, []int{99, 99})
		holds(t, f, "a", "xy", "b", "1")
		short.Crash(1, nil)
		holds(t, short, "a", "")
		long.Crash(2, []int{1})
		holds(t, long, "a", "x", "b", "")
	}
}

func TestFuseIsSetAnew(t *testing.T) {
	f := open(t, 10)
	f.Fuse(1)
	must(t, f.Create("a"))
	f.Fuse(2)
	must(t, f.Sync("a"), f.Sync("a"))
	f.Fuse(-1)
	must(t, f.Sync("a"), f.Sync("a"))
	f.Fuse(0)
	f.Fuse(math.MinInt)
	must(t, f.Sync("a"))
	f.Fuse(math.MaxInt)
	must(t, f.Sync("a"))
	f.Fuse(0)
	want(t, "Sync", f.Sync("a"), api.ErrDead)
}

func TestFileKeepsItsSelfUnderOtherNames(t *testing.T) {
	f := open(t, 100)
	write(t, f, "a", "one")
	must(t, f.Sync("a"), f.SyncNames(), f.Rename("a", "b"), f.Append("b", []byte("two")), f.Sync("b"), f.Append("b", []byte("three")))
	write(t, f, "a", "other")
	must(t, f.Sync("a"))
	f.Crash(0, nil)
	holds(t, f, "a", "onetwo")
	must(t, f.Remove("a"), f.Create("a"))
	holds(t, f, "a", "")
	f.Crash(0, nil)
	holds(t, f, "a", "onetwo")
}

// 1.3

func TestCrashKeepsTheFirstChanges(t *testing.T) {
	f := open(t, 100)
	for _, name := range []string{"a", "b", "c"} {
		must(t, f.Create(name), f.Append(name, []byte(name)), f.Sync(name))
	}
	must(t, f.SyncNames())
	must(t, f.Create("d"), f.Rename("a", "a"), f.Rename("b", "c"), f.Remove("a"), f.Rename("d", "a"), f.Remove("c"), f.Create("c"))
	after := [][]string{
		{"a", "a", "b", "b", "c", "c"},
		{"a", "a", "b", "b", "c", "c", "d", ""},
		{"a", "a", "c", "b", "d", ""},
		{"c", "b", "d", ""},
		{"a", "", "c", "b"},
		{"a", ""},
		{"a", "", "c", ""},
	}
	for n := -2; n < 10; n++ {
		g := f.Copy()
		g.Crash(n, nil)
		holds(t, g, after[min(max(n, 0), 6)]...)
	}
	for _, n := range []int{math.MinInt, math.MaxInt} {
		g := f.Copy()
		g.Crash(n, nil)
		holds(t, g, after[min(max(n, 0), 6)]...)
	}
}

func TestCrashCountsOnlyWhatReturnedOK(t *testing.T) {
	f := open(t, 100)
	want(t, "Create", f.Create(""), api.ErrArg)
	must(t, f.Create("a"))
	want(t, "Create", f.Create("a"), api.ErrThere)
	want(t, "Remove", f.Remove("b"), api.ErrNone)
	want(t, "Rename", f.Rename("b", "a"), api.ErrNone)
	must(t, f.Append("a", nil), f.Sync("a"), f.Rename("a", "a"), f.Create("b"), f.Create("c"))
	f.Crash(2, nil)
	holds(t, f, "a", "", "b", "")
}

func TestCrashKeepsTheFirstBytes(t *testing.T) {
	f := open(t, 100)
	write(t, f, "b", "bbbb")
	write(t, f, "a", "aa")
	must(t, f.Sync("a"), f.Append("a", []byte("AA")), f.Sync("b"))
	write(t, f, "c", "cccc")
	must(t, f.SyncNames())
	for _, c := range []struct {
		data    []int
		a, b, c string
	}{
		{nil, "aa", "bbbb", ""},
		{[]int{1}, "aaA", "bbbb", ""},
		{[]int{2, 0, 1}, "aaAA", "bbbb", "c"},
		{[]int{3, 9, 4, 7}, "aaAA", "bbbb", "cccc"},
		{[]int{-1, -1, 3}, "aa", "bbbb", "ccc"},
		{[]int{math.MaxInt, math.MaxInt, math.MaxInt}, "aaAA", "bbbb", "cccc"},
		{[]int{math.MinInt, math.MinInt, math.MinInt}, "aa", "bbbb", ""},
	} {
		g := f.Copy()
		g.Crash(0, c.data)
		holds(t, g, "a", c.a, "b", c.b, "c", c.c)
	}
}

func TestCrashCountsDataByTheNamesThatAreLeft(t *testing.T) {
	f := open(t, 100)
	write(t, f, "b", "bb")
	must(t, f.SyncNames())
	write(t, f, "a", "aa")
	write(t, f, "c", "cc")
	g := f.Copy()
	f.Crash(0, []int{1, 2, 2})
	holds(t, f, "b", "b")
	g.Crash(1, []int{0, 1, 2})
	holds(t, g, "a", "", "b", "b")
}

func TestCrashMakesAllDurable(t *testing.T) {
	f := open(t, 100)
	write(t, f, "a", "abc")
	write(t, f, "b", "abc")
	f.Crash(1, []int{2})
	for range 2 {
		f.Crash(0, nil)
		holds(t, f, "a", "ab")
	}
	must(t, f.Append("a", []byte("xyz")))
	holds(t, f, "a", "abxyz")
	f.Crash(9, []int{1})
	holds(t, f, "a", "abx")
}

func TestCrashRevives(t *testing.T) {
	f := open(t, 100)
	f.Fuse(1)
	must(t, f.Create("a"))
	want(t, "Sync", f.Sync("a"), api.ErrDead)
	f.Crash(1, nil)
	if f.Dead() {
		t.Error("dead")
	}
	must(t, f.Sync("a"), f.SyncNames(), f.Append("a", []byte("x")))
	f.Fuse(0)
	f.Crash(0, nil)
	must(t, f.Append("a", []byte("x")), f.Sync("a"))
	holds(t, f, "a", "x")
	g := open(t, 0)
	g.Crash(1, []int{1})
	holds(t, g)
}

func TestSyncNamesIsNotSync(t *testing.T) {
	f := open(t, 100)
	write(t, f, "a", "xy")
	must(t, f.SyncNames(), f.Append("a", []byte("z")))
	f.Crash(0, nil)
	holds(t, f, "a", "")
	write(t, f, "b", "xy")
	must(t, f.Sync("b"))
	f.Crash(0, nil)
	holds(t, f, "a", "")
}

func TestCopyIsApart(t *testing.T) {
	f := open(t, 10)
	write(t, f, "a", "xy")
	must(t, f.Sync("a"), f.SyncNames(), f.Rename("a", "b"), f.Append("b", []byte("z")))
	f.Fuse(3)
	g := f.Copy()
	must(t, f.Append("b", []byte("123")), f.Create("c"), f.SyncNames())
	holds(t, g, "b", "xyz")
	must(t, g.Append("b", []byte("456")), g.Sync("b"), g.Create("d"))
	want(t, "the limit of the copy", g.Sync("b"), api.ErrDead)
	if f.Dead() {
		t.Error("dead")
	}
	holds(t, f, "b", "xyz123", "c", "")
	h := g.Copy()
	if !h.Dead() {
		t.Error("not dead")
	}
	g.Crash(0, nil)
	holds(t, g, "a", "xyz456")
	h.Crash(1, nil)
	holds(t, h, "b", "xyz456")
	want(t, "the quota of the copy", h.Append("b", make([]byte, 5)), api.ErrFull)
	f.Crash(0, []int{2})
	holds(t, f, "b", "xyz1", "c", "")
}

func TestCopySharesNoNames(t *testing.T) {
	f := open(t, 10)
	must(t, f.Create("a"), f.Create("b"), f.Create("c"), f.SyncNames(), f.Remove("a"), f.Create("d"), f.Create("e"))
	g, h, k := f.Copy(), f.Copy(), f.Copy()
	must(t, f.Remove("b"))
	holds(t, g, "b", "", "c", "", "d", "", "e", "")
	must(t, g.Create("x"), g.Create("y"), h.Create("v"), h.Create("w"), f.Create("u"))
	g.Crash(4, nil)
	holds(t, g, "b", "", "c", "", "d", "", "e", "", "x", "")
	k.Crash(1, nil)
	holds(t, k, "b", "", "c", "")
	h.Crash(0, nil)
	holds(t, h, "a", "", "b", "", "c", "")
	f.Crash(9, nil)
	holds(t, f, "c", "", "d", "", "e", "", "u", "")
}

func TestExamples(t *testing.T) {
	f := open(t, 100)
	must(t, f.Create("a"), f.Append("a", []byte("xy")))
	holds(t, f, "a", "xy")
	f.Crash(1, nil)
	holds(t, f, "a", "")

	f = open(t, 100)
	must(t, f.Create("a"), f.Sync("a"))
	f.Crash(0, nil)
	want(t, "Read", calls["Read"](f, "a"), api.ErrNone)

	f = open(t, 100)
	must(t, f.Create("a"), f.SyncNames(), f.Create("b"), f.Rename("b", "a"))
	f.Crash(1, []int{1, 1})
	holds(t, f, "a", "", "b", "")
}

// 1.4

func TestOneOfBothFilesAlwaysHasTheName(t *testing.T) {
	f := open(t, 100)
	write(t, f, "a", "old")
	must(t, f.Sync("a"), f.SyncNames())
	steps := []func() api.Errno{
		func() api.Errno { return f.Create("new") },
		func() api.Errno { return f.Append("new", []byte("text")) },
		func() api.Errno { return f.Sync("new") },
		func() api.Errno { return f.Rename("new", "a") },
		func() api.Errno { return f.SyncNames() },
	}
	for i, step := range steps {
		for names := range 4 {
			g := f.Copy()
			g.Crash(names, []int{names})
			text := "old"
			if i == 4 && names >= 2 {
				text = "text"
			}
			if b, e := g.Read("a"); e != api.OK || string(b) != text {
				t.Errorf("before step %d, %d changes: %q, %v", i, names, b, e)
			}
		}
		must(t, step())
	}
	f.Crash(0, nil)
	holds(t, f, "a", "text")
}

// 1.5

func TestArgumentsAndResultsAreApart(t *testing.T) {
	f := open(t, 100)
	must(t, f.Create("a"), f.Create("b"))
	b := append(make([]byte, 0, 64), "xy"...)
	spare := b[:64]
	for i := 2; i < 64; i++ {
		spare[i] = 7
	}
	must(t, f.Append("a", b[:2]), f.Append("a", []byte("z")), f.Append("b", b[:1]))
	for i := range spare {
		if i >= 2 && spare[i] != 7 {
			t.Fatal("the spare capacity has changed")
		}
		spare[i] = 0
	}
	holds(t, f, "a", "xyz", "b", "x")
	for range 2 {
		c, _ := f.Read("a")
		c = c[:cap(c)]
		for i := range c {
			c[i] = '!'
		}
		l := f.List("")
		l = l[:cap(l)]
		for i := range l {
			l[i] = "!"
		}
	}
	must(t, f.Append("a", []byte("w")))
	holds(t, f, "a", "xyzw", "b", "x")
	data := []int{2, 1}
	f.Crash(2, data)
	if !slices.Equal(data, []int{2, 1}) {
		t.Error(data)
	}
	holds(t, f, "a", "xy", "b", "x")
}

func TestCopyAfterCrashSharesNoBytes(t *testing.T) {
	f := open(t, 100)
	write(t, f, "a", "abcdef")
	f.Crash(1, []int{3})
	g := f.Copy()
	must(t, f.Append("a", []byte("123")), g.Append("a", []byte("xyz")))
	holds(t, f, "a", "abc123")
	holds(t, g, "a", "abcxyz")
}
