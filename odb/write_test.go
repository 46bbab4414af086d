package odb_test

import (
	"fmt"
	"math/rand"
	"slices"
	"strings"
	"testing"

	"stemma/api"
	"stemma/fs"
	"stemma/idx"
	"stemma/loose"
	"stemma/pack"
)

const person = "A U Thor <a@example.org> 1234567890 +0100"

func commit(tree, message string) string {
	return "tree " + tree + "\nauthor " + person + "\ncommitter " + person + "\n\n" + message
}

func tag(id, name string) string {
	return "object " + id + "\ntype commit\ntag " + name + "\ntagger " + person + "\n\n"
}

// intakes holds an Intake to be the model's, in what it tells and in what it changes.
func intakes(t *testing.T, f *fs.FS, b string) ([]string, api.Errno) {
	t.Helper()
	s := on(t, f)
	g := f.Copy()
	got, e := s.Intake([]byte(b))
	want, wantE := model{g}.intake([]byte(b))
	if !slices.Equal(got, want) || e != wantE {
		t.Fatalf("%q, %v; not %q, %v", got, e, want, wantE)
	}
	same(t, f, g)
	return got, e
}

// takes holds an Intake to tell the IDs of these objects, in this order.
func takes(t *testing.T, f *fs.FS, b string, own ...api.Object) {
	t.Helper()
	l, e := intakes(t, f, b)
	if e != api.OK || !slices.Equal(l, idsOf(own)) {
		t.Fatalf("%q, %v; not %q", l, e, idsOf(own))
	}
	for _, o := range own {
		gets(t, f, o.Kind, string(o.Body))
	}
	if e := on(t, f).Check(); e != api.OK {
		t.Error(e)
	}
}

// doesNotTake holds an Intake to fail and to do nothing.
func doesNotTake(t *testing.T, f *fs.FS, b string, want api.Errno) {
	t.Helper()
	g := f.Copy()
	if l, e := intakes(t, f, b); l != nil || e != want {
		t.Errorf("%q, %v; not %v", l, e, want)
	}
	same(t, f, g)
}

// has holds a store to have the packs that Write makes of these objects, and nothing besides.
func has(t *testing.T, f *fs.FS, lists ...[]api.Object) {
	t.Helper()
	g := disk(t)
	for _, l := range lists {
		b := pack.Write(l, nil)
		raws, id, _ := pack.Read(b)
		placed, _ := pack.Resolve(raws, nil)
		index, e := idx.Build(placed, id)
		if e != api.OK {
			t.Fatal(e)
		}
		put(t, g, packName(id), string(b))
		put(t, g, indexName(id), string(index))
	}
	if got, want := listing(f), listing(g); !slices.Equal(got, want) {
		t.Errorf("%q, not %q", got, want)
	}
}

// 13.2

func TestIntake(t *testing.T) {
	f := disk(t)
	tree := modelID(api.KTree, "")
	c := []string{commit(tree, "a"), commit(tree, "b"), commit(tree, "c")}
	l := []api.Object{obj(api.KCommit, c[0]), obj(api.KCommit, c[1]), obj(api.KCommit, c[2]), obj(api.KTag, tag(id1, "a")), obj(api.KTag, tag(id1, "b")), obj(api.KTree, ""), obj(api.KBlob, ""), obj(api.KBlob, "x"), obj(api.KBlob, "y")}
	l = pack.Order(l)
	var entries []string
	for _, o := range l {
		entries = append(entries, plain(o.Kind, string(o.Body)))
	}
	rand.New(rand.NewSource(132)).Shuffle(len(entries), func(i, j int) { entries[i], entries[j] = entries[j], entries[i] })
	for range 2 { // what is there already is taken again
		takes(t, f, packed(append(entries, entries[3], entries[0], entries[3])...), l...)
		has(t, f, l)
	}
	takes(t, f, packed(blob("x"), blob("z")), pack.Order(blobs("x", "z"))...)
	has(t, f, l, blobs("x", "z"))
	f.Crash(0, nil)
	has(t, f, l, blobs("x", "z"))
	for _, o := range l {
		gets(t, f, o.Kind, string(o.Body))
	}
}

func TestIntakeOfNoObjects(t *testing.T) {
	f := disk(t)
	stores(t, f, api.KBlob, "x")
	f.Fuse(0)
	for range 2 {
		g := f.Copy()
		if l, e := on(t, f).Intake([]byte(packed())); l != nil || e != api.OK {
			t.Error(l, e)
		}
		same(t, f, g)
		die(f)
	}
}

func TestIntakeOfDeltas(t *testing.T) {
	f := disk(t)
	a, b, c, d := lines(1, 60), lines(2, 60), lines(3, 60), lines(4, 60)
	to := ofs(len(blob(a)), a, b)
	takes(t, f, packed(blob(a), to, ofs(len(to), b, c), ref(c, d)), pack.Order(blobs(a, b, c, d))...)
	has(t, f, blobs(a, b, c, d))
}

// What b lacks comes from the store, and goes into the pack, but isn't told.
func TestIntakeOfThin(t *testing.T) {
	text := func(i int) string { return lines(i, 60) }
	alone := func(i int) func(*testing.T, *fs.FS) {
		return func(t *testing.T, f *fs.FS) { stores(t, f, api.KBlob, text(i)) }
	}
	for name, x := range map[string]struct {
		before func(*testing.T, *fs.FS)
		b      string
		own    []api.Object
		bases  []api.Object
	}{
		"a file":           {alone(1), packed(ref(text(1), text(2))), blobs(text(2)), blobs(text(1))},
		"a pack":           {func(t *testing.T, f *fs.FS) { packs(t, f, blob("x"), blob(text(1))) }, packed(ref(text(1), text(2)), blob("y")), blobs(text(2), "y"), blobs(text(1))},
		"a delta":          {func(t *testing.T, f *fs.FS) { packs(t, f, blob(text(1)), ofs(len(blob(text(1))), text(1), text(2))) }, packed(ref(text(2), text(3))), blobs(text(3)), blobs(text(2))},
		"once":             {alone(1), packed(ref(text(1), text(2)), ref(text(1), text(3)), ref(text(1), text(2))), blobs(text(2), text(3)), blobs(text(1))},
		"several":          {func(t *testing.T, f *fs.FS) { alone(1)(t, f); alone(2)(t, f); alone(3)(t, f) }, packed(ref(text(1), text(4)), ref(text(2), text(5))), blobs(text(4), text(5)), blobs(text(1), text(2))},
		"chain":            {alone(1), packed(ref(text(3), text(4)), ref(text(1), text(2)), ofs(len(ref(text(1), text(2))), text(2), text(3))), blobs(text(2), text(3), text(4)), blobs(text(1))},
		"there":            {alone(1), packed(ref(text(1), text(2)), blob(text(1))), blobs(text(1), text(2)), nil},
		"there by a delta": {alone(1), packed(ref(text(1), text(2)), ref(text(2), text(1))), blobs(text(1), text(2)), nil},
		"itself":           {alone(1), packed(ref(text(1), text(1))), blobs(text(1)), nil},
	} {
		t.Run(name, func(t *testing.T) {
			f := disk(t)
			x.before(t, f)
			takes(t, f, x.b, pack.Order(x.own)...)
			for _, id := range loose.IDs(f) {
				f.Remove(loose.Path(id))
			}
			for _, p := range on(t, f).Packs() { // that the pack of all needs no other
				if b, _ := f.Read(packName(p)); string(b) != string(pack.Write(append(x.bases, x.own...), nil)) {
					f.Remove(packName(p))
					f.Remove(indexName(p))
				}
			}
			has(t, f, append(x.own, x.bases...))
			for _, o := range append(x.own, x.bases...) {
				gets(t, f, o.Kind, string(o.Body))
			}
		})
	}
}

// A base may be of any kind, and is not looked at: the store has it already.
func TestIntakeOnWrongBases(t *testing.T) {
	f := disk(t)
	from, to := "no tree", ""
	stores(t, f, api.KTree, from)
	b := strings.Replace(packed(ref(from, to)), unhex(blobID(from)), unhex(modelID(api.KTree, from)), 1)
	b = summed(b[:len(b)-20])
	l, e := intakes(t, f, b)
	if e != api.OK || !slices.Equal(l, []string{modelID(api.KTree, to)}) {
		t.Error(l, e)
	}
	if got := on(t, f).IDs(); len(got) != 2 || len(on(t, f).Packs()) != 1 {
		t.Error(got)
	}
}

// Bases that can't be had count as missing.
func TestIntakeWithoutBases(t *testing.T) {
	from, to := lines(1, 60), lines(2, 60)
	b := packed(blob("x"), ref(from, to))
	for name, before := range map[string]func(f *fs.FS){
		"nothing":       func(f *fs.FS) {},
		"another kind":  func(f *fs.FS) { stores(t, f, api.KTag, from) },
		"another text":  func(f *fs.FS) { put(t, f, loose.Path(blobID(from)), string(loose.File(api.KBlob, []byte(to)))) },
		"no object":     func(f *fs.FS) { put(t, f, loose.Path(blobID(from)), "x") },
		"no index":      func(f *fs.FS) { f.Remove(indexName(packs(t, f, blob(from)))) },
		"a wrong index": func(f *fs.FS) { put(t, f, indexName(packs(t, f, blob(from))), "x") },
		"a wrong pack":  func(f *fs.FS) { put(t, f, packName(packs(t, f, blob(from))), "x") },
	} {
		t.Run(name, func(t *testing.T) {
			f := disk(t)
			before(f)
			doesNotTake(t, f, b, api.ErrNone)
		})
	}
	f := disk(t)
	stores(t, f, api.KBlob, from)
	die(f)
	doesNotTake(t, f, b, api.ErrNone)
}

func TestIntakeErrors(t *testing.T) {
	good := packed(blob("x"), blob("y"))
	tree := plain(api.KTree, "no tree")
	missing := ref("elsewhere", "x")
	wrong := ofs(len(blob("x")), "another text", "x")
	for i, x := range []struct {
		b    string
		want api.Errno
	}{
		{"", api.ErrTorn},
		{"PACK", api.ErrTorn},
		{"pack", api.ErrForm},
		{good[:len(good)-1], api.ErrTorn},
		{good[:len(good)-1] + "x", api.ErrSum},
		{good + "x", api.ErrForm},
		{packed()[:12] + summed(packed()[:12]), api.ErrSum},
		{strings.Repeat("x", 1<<20+1), api.ErrBig},
		{"PACK\x00\x00\x00\x02\x00\x00\x10\x01", api.ErrBig},
		{packed(blob(strings.Repeat("x", 65537))), api.ErrBig},
		{packed(missing), api.ErrNone},
		{packed(blob("x"), wrong), api.ErrForm},
		{packed(blob("x"), missing, wrong), api.ErrNone},
		{packed(blob("x"), wrong, missing), api.ErrForm},
		{packed(blob("x"), tree), api.ErrForm},
		{packed(tree, blob("x")), api.ErrForm},
		{packed(plain(api.KCommit, "no commit")), api.ErrForm},
		{packed(plain(api.KTag, "no tag")), api.ErrForm},
		{packed(tree, missing), api.ErrNone},
		{packed(missing, tree), api.ErrNone},
		{packed(tree, missing)[:30], api.ErrTorn},
		{packed(tree, blob(strings.Repeat("x", 65537))), api.ErrBig},
	} {
		f := disk(t)
		stores(t, f, api.KBlob, "there")
		packs(t, f, blob("there"), blob("too"))
		for range 2 {
			doesNotTake(t, f, x.b, x.want)
			f.Fuse(0) // which no change finds
		}
		if t.Failed() {
			t.Fatal(i)
		}
	}
}

// few tells so many small blobs, which make packs of few bytes.
func few(n int) []api.Object {
	var l []api.Object
	for i := range n {
		l = append(l, obj(api.KBlob, fmt.Sprint(i)))
	}
	return l
}

func TestIntakeOfManyObjects(t *testing.T) {
	t.Parallel()
	base := lines(1, 60)
	var entries []string
	for _, o := range few(4095) {
		entries = append(entries, blob(string(o.Body)))
	}
	f := disk(t)
	stores(t, f, api.KBlob, base)
	g := f.Copy()
	for want, b := range map[api.Errno]string{
		api.ErrBig:  packed(append(entries, ref(base, "x"))...),
		api.ErrForm: packed(append(entries[1:], ref(base, "x"), plain(api.KTree, "no tree"))...),
	} {
		if l, e := on(t, f).Intake([]byte(b)); l != nil || e != want {
			t.Error(len(l), e, want)
		}
		same(t, f, g)
	}
	b := packed(append(entries[1:], ref(base, "x"), ref(base, "x"))...) // one of them twice
	l, e := on(t, f).Intake([]byte(b))
	if e != api.OK || len(l) != 4095 || slices.Contains(l, blobID(base)) || !slices.IsSorted(l) {
		t.Error(len(l), e)
	}
	if s := on(t, f); len(s.IDs()) != 4096 || s.Check() != api.OK {
		t.Error(len(s.IDs()), s.Check())
	}
}

// full tells some objects, and blobs with which Write makes a pack of so many bytes of them.
func full(t *testing.T, size int, some ...api.Object) []api.Object {
	t.Helper()
	rnd := rand.New(rand.NewSource(20))
	left := size - len(pack.Write(some, nil))
	for ; left > 70000; left -= 65014 {
		some = append(some, obj(api.KBlob, noise(rnd, 65000)))
	}
	some = append(some, obj(api.KBlob, noise(rnd, 2500)))
	rest := noise(rnd, 1<<17)
	n := left - 2600
	for range 9 { // what a byte more costs may hang on the order
		l := append(some, obj(api.KBlob, rest[:n]))
		got := len(pack.Write(l, nil))
		if got == size {
			return l
		}
		n += size - got
	}
	t.Fatal("no such pack")
	return nil
}

func TestIntakeOfManyBytes(t *testing.T) {
	t.Parallel()
	base, to := obj(api.KBlob, noise(rand.New(rand.NewSource(21)), 60000)), api.Object{}
	to = obj(api.KBlob, string(base.Body[5:]))
	for size, want := range map[int]api.Errno{1 << 20: api.OK, 1<<20 + 1: api.ErrBig} {
		l := full(t, size, base, to)
		entries := []string{ref(string(base.Body), string(to.Body))}
		for _, o := range l[2:] {
			entries = append(entries, blob(string(o.Body)))
		}
		f := disk(t)
		stores(t, f, api.KBlob, string(base.Body))
		g := f.Copy()
		ids, e := on(t, f).Intake([]byte(packed(entries...)))
		if e != want || (e == api.OK) != (len(ids) == len(l)-1) {
			t.Error(size, len(ids), e)
		}
		if e != api.OK {
			same(t, f, g)
		} else if on(t, f).Check() != api.OK {
			t.Error(on(t, f).Check())
		}
	}
}

// An Intake is told from the calls of the chapter by no change that fails and no crash.
func TestIntakeIsItsCalls(t *testing.T) {
	a, b := lines(1, 60), lines(2, 60)
	thin := packed(ref(a, b), blob("x"))
	for i, before := range []func(f *fs.FS){
		func(f *fs.FS) {},
		func(f *fs.FS) { packs(t, f, blob("x"), blob("y")) },
		func(f *fs.FS) { on(t, f).Intake([]byte(thin)) },
		func(f *fs.FS) { on(t, f).Intake([]byte(thin)); f.Remove(indexName(on(t, f).Packs()[0])) },
		func(f *fs.FS) { on(t, f).Intake([]byte(thin)); put(t, f, indexName(on(t, f).Packs()[0]), "x") },
		func(f *fs.FS) { f.Create("not durable"); f.Append("not durable", []byte("xy")) },
	} {
		for fuse := range 11 {
			t.Run(fmt.Sprint(i, fuse), func(t *testing.T) {
				f := disk(t)
				stores(t, f, api.KBlob, a)
				before(f)
				f.Fuse(fuse)
				if _, e := intakes(t, f, thin); (e == api.OK) != (fuse >= 9) || e != api.OK && e != api.ErrDead {
					t.Error(e)
				}
			})
		}
	}
}

// What a crash leaves below tmp/ is not in the way of the same Store.
func TestIntakeAgain(t *testing.T) {
	b := packed(blob("x"), blob("y"))
	for fuse := range 9 {
		for changes := range 9 {
			f := disk(t)
			s := on(t, f)
			f.Fuse(fuse)
			if _, e := s.Intake([]byte(b)); e != api.ErrDead {
				t.Fatal(e)
			}
			f.Crash(changes, []int{5, 5, 5})
			if l, e := s.Intake([]byte(b)); e != api.OK || len(l) != 2 || len(f.List("tmp/")) > 0 {
				t.Error(fuse, changes, l, e, f.List(""))
			}
			has(t, f, blobs("x", "y"))
		}
	}
}

// Without room for both files nothing is kept, and what room there was is there again.
func TestIntakeNeedsRoom(t *testing.T) {
	rnd := rand.New(rand.NewSource(60))
	body := noise(rnd, 3000)
	b := packed(blob(body), blob("x"))
	old := loose.File(api.KBlob, []byte("old"))
	need := len(pack.Write(blobs(body, "x"), nil)) + 1072 + 2*28
	for quota := 0; quota <= need; quota += 1 + 7*rnd.Intn(12) {
		f, _ := fs.New(quota + len(old))
		stores(t, f, api.KBlob, "old")
		doesNotTakeUnless(t, f, b, quota == need)
	}
	f, _ := fs.New(need + len(old))
	stores(t, f, api.KBlob, "old")
	doesNotTakeUnless(t, f, b, true)
	doesNotTakeUnless(t, f, packed(blob("y")), false)
	gets(t, f, api.KBlob, "x")
}

func doesNotTakeUnless(t *testing.T, f *fs.FS, b string, room bool) {
	t.Helper()
	was, used := f.List(""), f.Used()
	l, e := intakes(t, f, b)
	if room != (e == api.OK) || e != api.OK && (e != api.ErrFull || l != nil || f.Used() != used || !slices.Equal(f.List(""), was)) {
		t.Errorf("%q, %v, %q", l, e, f.List(""))
	}
	if on(t, f).Check() != api.OK {
		t.Error(on(t, f).Check())
	}
}

// 13.3

// repacks holds a Repack to be the model's, in what it tells and in what it changes.
func repacks(t *testing.T, f *fs.FS) api.Errno {
	t.Helper()
	s := on(t, f)
	g := f.Copy()
	e := s.Repack()
	if want := (model{g}).repack(); e != want {
		t.Fatalf("%v, not %v", e, want)
	}
	same(t, f, g)
	return e
}

func TestRepack(t *testing.T) {
	a, b, c := lines(1, 60), lines(2, 60), lines(3, 60)
	tree := modelID(api.KTree, "")
	all := []api.Object{obj(api.KBlob, "alone"), obj(api.KBlob, "both"), obj(api.KCommit, commit(tree, "c")), obj(api.KBlob, a), obj(api.KBlob, b), obj(api.KBlob, c), obj(api.KTree, ""), obj(api.KTree, "no tree"), obj(api.KTag, tag(id1, "t"))}
	f := disk(t)
	for _, o := range []api.Object{all[0], all[1], all[2], all[7]} {
		stores(t, f, o.Kind, string(o.Body))
	}
	packs(t, f, blob(a), ofs(len(blob(a)), a, b), blob("both"))
	packs(t, f, blob(c), plain(api.KTree, ""), blob(a), blob("both"))
	packs(t, f, plain(api.KTag, tag(id1, "t")))
	if e := repacks(t, f); e != api.OK {
		t.Error(e)
	}
	has(t, f, all)
	f.Crash(0, nil)
	has(t, f, all)
	for _, o := range all {
		gets(t, f, o.Kind, string(o.Body))
	}
	f.Fuse(0)
	if e := repacks(t, f); e != api.OK { // no effect any more
		t.Error(e)
	}
}

func TestRepackOnlyWhereItMust(t *testing.T) {
	for name, x := range map[string]struct {
		before  func(f *fs.FS)
		effects bool
	}{
		"nothing":                {func(f *fs.FS) {}, false},
		"a pack":                 {func(f *fs.FS) { packs(t, f, blob("a"), blob("b")) }, false},
		"a pack that isn't one":  {func(f *fs.FS) { put(t, f, packName(id1), "x"); put(t, f, indexName(id1), "x") }, false},
		"a pack and half a pack": {func(f *fs.FS) { packs(t, f, blob("a")); f.Remove(indexName(packs(t, f, blob("b")))) }, false},
		"other files":            {func(f *fs.FS) { put(t, f, "objects/x", "x"); put(t, f, "x", "x") }, false},
		"a file":                 {func(f *fs.FS) { stores(t, f, api.KBlob, "a") }, true},
		"two files":              {func(f *fs.FS) { stores(t, f, api.KBlob, "a"); stores(t, f, api.KTag, "b") }, true},
		"a pack and a file":      {func(f *fs.FS) { packs(t, f, blob("a")); stores(t, f, api.KBlob, "b") }, true},
		"a pack that has a file": {func(f *fs.FS) { on(t, f).Intake([]byte(packed(blob("a"), blob("b")))); stores(t, f, api.KBlob, "b") }, true},
		"two packs":              {func(f *fs.FS) { packs(t, f, blob("a")); packs(t, f, blob("b")) }, true},
		"one in the other":       {func(f *fs.FS) { on(t, f).Intake([]byte(packed(blob("a"), blob("b")))); packs(t, f, blob("b")) }, true},
		"packs of the same":      {func(f *fs.FS) { packs(t, f, blob("a"), blob("b")); packs(t, f, blob("b"), blob("a")) }, true},
		"a pack of nothing too":  {func(f *fs.FS) { packs(t, f); packs(t, f, blob("a")) }, true},
	} {
		t.Run(name, func(t *testing.T) {
			f := disk(t)
			x.before(f)
			var l []api.Object
			for _, id := range on(t, f).IDs() {
				kind, b, _ := on(t, f).Get(id)
				l = append(l, obj(kind, string(b)))
			}
			dead := f.Copy()
			dead.Fuse(0)
			if e := repacks(t, dead); (e == api.ErrDead) != x.effects {
				t.Error(e)
			}
			was := listing(f)
			if e := repacks(t, f); e != api.OK {
				t.Error(e)
			}
			if x.effects {
				has(t, f, l)
			} else if got := listing(f); !slices.Equal(got, was) {
				t.Errorf("%q, not %q", got, was)
			}
		})
	}
}

// Files that are neither objects nor packs stay.
func TestRepackLeavesOtherFiles(t *testing.T) {
	others := []string{packName(id1), "x", indexName(id2), "y", "objects/x", "z", "objects/pack/x", "0", "refs/heads/a", id1, loose.Path(id1) + "0", "1", packName("x"), "2", indexName("x"), "3"}
	f := disk(t, others...)
	stores(t, f, api.KBlob, "a")
	packs(t, f, blob("b"))
	if e := repacks(t, f); e != api.OK {
		t.Error(e)
	}
	for i := 0; i < len(others); i += 2 {
		if b, e := f.Read(others[i]); string(b) != others[i+1] || e != api.OK {
			t.Errorf("%q: %q, %v", others[i], b, e)
		}
	}
	if len(f.List("")) != len(others)/2+2 || len(on(t, f).IDs()) != 2 {
		t.Error(f.List(""))
	}
}

func TestRepackOfManyObjects(t *testing.T) {
	t.Parallel()
	for _, want := range []api.Errno{api.OK, api.ErrBig} {
		f := disk(t)
		for _, o := range few(4096) {
			f.Create(loose.Path(o.ID))
			f.Append(loose.Path(o.ID), loose.File(o.Kind, o.Body))
		}
		if want != api.OK {
			put(t, f, loose.Path(id1), "no object") // which is told after that there are too many
		}
		g := f.Copy()
		s := on(t, f)
		ids := s.IDs()
		if e := s.Repack(); e != want {
			t.Error(e, want)
		}
		if want != api.OK {
			same(t, f, g)
		} else if len(f.List("")) != 2 || s.Check() != api.OK || !slices.Equal(s.IDs(), ids) {
			t.Error(len(f.List("")), s.Check())
		}
	}
}

func TestRepackOfManyBytes(t *testing.T) {
	t.Parallel()
	for size, want := range map[int]api.Errno{1 << 20: api.OK, 1<<20 + 1: api.ErrBig} {
		f := disk(t)
		for _, o := range full(t, size) {
			stores(t, f, o.Kind, string(o.Body))
		}
		g := f.Copy()
		s := on(t, f)
		if e := s.Repack(); e != want {
			t.Error(size, e)
		}
		if want != api.OK {
			same(t, f, g)
		} else if len(f.List("")) != 2 || s.Check() != api.OK {
			t.Error(f.List(""), s.Check())
		}
	}
}

// What can't be read can't be written to a pack: it stays where it is, with all the rest.
func TestRepackOfWrongFiles(t *testing.T) {
	for name, x := range map[string]struct {
		before func(f *fs.FS)
		want   api.Errno
	}{
		"a file":   {func(f *fs.FS) { put(t, f, loose.Path(id1), "no object") }, api.ErrForm},
		"an ID":    {func(f *fs.FS) { put(t, f, loose.Path(id1), string(loose.File(api.KBlob, nil))) }, api.ErrSum},
		"a pack":   {func(f *fs.FS) { put(t, f, packName(packs(t, f, blob("b"), blob("c"))), "x") }, api.ErrForm},
		"an index": {func(f *fs.FS) { put(t, f, indexName(packs(t, f, blob("b"), blob("c"))), "x") }, api.ErrTorn},
		"a delta":  {func(f *fs.FS) { indexed(t, f, id1, packed(ref("x", "y")), api.Object{ID: blobID("y"), At: 12}) }, api.ErrNone},
	} {
		t.Run(name, func(t *testing.T) {
			f := disk(t)
			stores(t, f, api.KBlob, "a")
			packs(t, f, blob("d"))
			x.before(f)
			g := f.Copy()
			if e := on(t, f).Repack(); e != x.want {
				t.Error(e)
			}
			same(t, f, g)
		})
	}
}

// A Repack is told from the calls of the chapter by no change that fails and no crash.
func TestRepackIsItsCalls(t *testing.T) {
	for i, before := range []func(f *fs.FS){
		func(f *fs.FS) { stores(t, f, api.KBlob, "a") },
		func(f *fs.FS) {
			stores(t, f, api.KBlob, "a")
			stores(t, f, api.KTag, "b")
			packs(t, f, blob("c"))
			packs(t, f, blob("d"))
			packs(t, f, blob("e"), blob("c"))
		},
		func(f *fs.FS) { on(t, f).Intake([]byte(packed(blob("a"), blob("b")))); stores(t, f, api.KBlob, "a") },
		func(f *fs.FS) { on(t, f).Intake([]byte(packed(blob("a"), blob("b")))); packs(t, f, blob("b")) },
		func(f *fs.FS) {
			f.Create(loose.Path(blobID("")))
			f.Append(loose.Path(blobID("")), loose.File(api.KBlob, nil))
		},
	} {
		for fuse := range 19 {
			t.Run(fmt.Sprint(i, fuse), func(t *testing.T) {
				f := disk(t)
				before(f)
				f.Fuse(fuse)
				if e := repacks(t, f); e != api.OK && e != api.ErrDead {
					t.Error(e)
				}
				if f.Dead() {
					if e := repacks(t, f); e != api.ErrDead {
						t.Error(e)
					}
				}
			})
		}
	}
}

func TestRepackNeedsRoom(t *testing.T) {
	old := len(loose.File(api.KBlob, []byte("old")))
	need := 2*old + len(pack.Write(blobs("old", "odd"), nil)) + 1072 + 2*28
	for quota := 2 * old; quota <= need; quota += 1 + min(12, max(0, need-quota-14)) {
		f, _ := fs.New(quota)
		stores(t, f, api.KBlob, "old")
		stores(t, f, api.KBlob, "odd")
		want := api.ErrFull
		if quota == need {
			want = api.OK
		}
		if e := repacks(t, f); e != want || len(f.List("")) != 2 {
			t.Error(quota, e, f.List(""))
		}
		gets(t, f, api.KBlob, "old")
		gets(t, f, api.KBlob, "odd")
	}
}
