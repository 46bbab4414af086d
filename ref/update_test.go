package ref_test

import (
	"maps"
	"math/rand"
	"slices"
	"strings"
	"testing"

	"stemma/api"
	"stemma/fs"
	"stemma/odb"
	"stemma/ref"
)

// 15.3

func TestUpdate(t *testing.T) {
	f := disk(t)
	r := open(t, f)
	x, y := id('1'), id('2')
	answers(t, r, 0, api.OK)
	answers(t, r, 1, api.OK, "refs/heads/a", zero, x)
	answers(t, r, 0, api.ErrStale, "refs/heads/a", zero, x)
	answers(t, r, 0, api.ErrUnder, "refs/heads/a/b", "", x)
	has(t, r, "refs/heads/a", x)
	updates(t, r, "refs/heads/a", x, y)
	has(t, r, "refs/heads/a", y)
	updates(t, r, "refs/heads/a", "", x)
	updates(t, r, "refs/heads/a", x, x)
	has(t, r, "refs/heads/a", x)
	updates(t, r, "refs/c", "", y, "refs/b", zero, y, "refs/heads/a", x, "")
	has(t, r, "refs/b", y, "refs/c", y)
	updates(t, r, "refs/b", "", "", "refs/c", y, "")
	has(t, r)
	durable(t, f)
}

// What isn't there can be deleted, too.
func TestDeletionOfNothing(t *testing.T) {
	f := disk(t)
	r := open(t, f)
	updates(t, r, "refs/a", "", "")
	updates(t, r, "refs/a", zero, "")
	answers(t, r, 0, api.ErrStale, "refs/a", id('1'), "")
	updates(t, r, "refs/a", "", id('1'), "refs/b", zero, "", "refs/c", "", "")
	has(t, r, "refs/a", id('1'))
	answers(t, r, 1, api.ErrStale, "refs/b", "", "", "refs/a", zero, "")
	has(t, r, "refs/a", id('1'))
}

// Whether an object exists isn't examined.
func TestUpdateOfAnyObject(t *testing.T) {
	r := open(t, disk(t))
	updates(t, r, "refs/heads/a", "", strings.Repeat("0", 39)+"1", "refs/heads/b", "", id('f'))
	has(t, r, "refs/heads/a", strings.Repeat("0", 39)+"1", "refs/heads/b", id('f'))
}

func TestUpdateTellsErrArg(t *testing.T) {
	f := disk(t)
	r := open(t, f)
	x := id('1')
	updates(t, r, "refs/a", "", x)
	was := listing(f)
	for _, wrong := range []string{"", "a", "HEAD", "packed-refs", "refs", "refs/", "refs/.x", "refs/x.lock", "refs/x\n", "refs/x y", "refs/" + strings.Repeat("x", 96), "refs/\xff"} {
		answers(t, r, 0, api.ErrArg, wrong, "", x)
		answers(t, r, 0, api.ErrArg, wrong, "", "")
		answers(t, r, 1, api.ErrArg, "refs/x", "", x, wrong, "", x, wrong, "", x)
	}
	for _, wrong := range []string{"x", x[1:], x + "1", x + "\n", id('A'), id('g'), " ", strings.Repeat("\x00", 40)} {
		answers(t, r, 0, api.ErrArg, "refs/x", wrong, x)
		answers(t, r, 0, api.ErrArg, "refs/x", "", wrong)
		answers(t, r, 0, api.ErrArg, "refs/x", wrong, "")
		answers(t, r, 2, api.ErrArg, "refs/x", "", x, "refs/y", "", "", "refs/z", wrong, wrong)
	}
	answers(t, r, 0, api.ErrArg, "refs/x", "", zero)
	answers(t, r, 0, api.ErrArg, "refs/x", zero, zero)
	answers(t, r, 1, api.ErrArg, "refs/x", "", x, "refs/x", "", x)
	answers(t, r, 1, api.ErrArg, "refs/x", "", "", "refs/x", "", "", "refs/x", "", "")
	answers(t, r, 3, api.ErrArg, "refs/x", "", x, "refs/y", "", x, "refs/z", "", x, "refs/x", x, "")
	if got := listing(f); !slices.Equal(got, was) {
		t.Errorf("%q, not %q", got, was)
	}
}

func TestUpdateTellsErrStale(t *testing.T) {
	f := disk(t, "refs/l", id('3')+"\n", "packed-refs", head+id('1')+" refs/a\n"+id('2')+" refs/l\n"+id('1')+" refs/x\n", "refs/x", "no ref", "refs/z", zero+"\n")
	r := open(t, f)
	was := listing(f)
	x := id('4')
	answers(t, r, 0, api.ErrStale, "refs/a", id('2'), x)
	answers(t, r, 0, api.ErrStale, "refs/a", zero, x)
	answers(t, r, 0, api.ErrStale, "refs/a", zero, "")
	answers(t, r, 0, api.ErrStale, "refs/n", id('1'), x)
	answers(t, r, 0, api.ErrStale, "refs/n", id('1'), "")
	answers(t, r, 0, api.ErrStale, "refs/l", id('2'), x) // what is packed is hidden
	answers(t, r, 0, api.ErrStale, "refs/x", zero, x)
	answers(t, r, 0, api.ErrStale, "refs/z", zero, x) // there is such a ref
	answers(t, r, 1, api.ErrStale, "refs/a", id('1'), x, "refs/l", zero, x, "refs/n", id('1'), x)
	// Each change is held against the refs as they are ahead of all of them.
	answers(t, r, 1, api.ErrStale, "refs/a", id('1'), x, "refs/n", x, x)
	if got := listing(f); !slices.Equal(got, was) {
		t.Errorf("%q, not %q", got, was)
	}
	updates(t, r, "refs/a", id('1'), x, "refs/l", id('3'), x, "refs/x", id('1'), x, "refs/n", zero, x)
	has(t, r, "refs/a", x, "refs/l", x, "refs/n", x, "refs/x", x, "refs/z", zero)
}

func TestUpdateTellsErrUnder(t *testing.T) {
	x := id('1')
	f := disk(t, "refs/l/m", x+"\n", "refs/g", "no ref", "packed-refs", head+x+" refs/a/b\n"+x+" refs/c\n")
	r := open(t, f)
	was := listing(f)
	for _, name := range []string{"refs/a", "refs/a/b/c", "refs/a/b/c/d", "refs/c/d", "refs/c/d/e", "refs/l", "refs/l/m/n"} {
		answers(t, r, 0, api.ErrUnder, name, "", x)
		answers(t, r, 0, api.ErrUnder, name, zero, x, "refs/other", "", x)
		answers(t, r, 2, api.ErrUnder, "refs/other", "", x, "refs/g", "", x, name, zero, x)
	}
	answers(t, r, 0, api.ErrUnder, "refs/x", "", x, "refs/x/y", "", x)
	answers(t, r, 0, api.ErrUnder, "refs/x/y", "", x, "refs/x", "", x)
	answers(t, r, 1, api.ErrUnder, "refs/a/b", "", "", "refs/l", "", x)
	answers(t, r, 2, api.ErrUnder, "refs/a/b", "", "", "refs/q", "", x, "refs/x/y/z", "", x, "refs/r", "", x, "refs/x", "", x)
	if got := listing(f); !slices.Equal(got, was) {
		t.Errorf("%q, not %q", got, was)
	}
	// None of these is above or under another one.
	updates(t, r, "refs/a/bc", "", x, "refs/a-", "", x, "refs/a/b-", "", x, "refs/cc/d", "", x, "refs/l/mm", "", x, "refs/ll", "", x, "refs/g/h", "", x)
	// What goes makes room for what comes, in both orders.
	updates(t, r, "refs/c", "", "", "refs/c/d", "", x)
	updates(t, r, "refs/c", "", x, "refs/c/d", "", "")
	updates(t, r, "refs/a/b", "", "", "refs/a/b/c", "", x)
	answers(t, r, 0, api.ErrUnder, "refs/a", "", x, "refs/a/b/c", "", "")
	updates(t, r, "refs/a", "", x, "refs/a/b/c", "", "", "refs/a/bc", "", "", "refs/a/b-", "", "")
	agrees(t, r, f)
}

// Refs that were above one another ahead of the Update are in the way only of those that are set.
func TestUpdateBesideErrUnder(t *testing.T) {
	x, y := id('1'), id('2')
	f := disk(t, "packed-refs", head+x+" refs/a\n"+x+" refs/a/b\n")
	r := open(t, f)
	updates(t, r, "refs/c", "", x)
	answers(t, r, 0, api.ErrUnder, "refs/a", "", y)
	answers(t, r, 1, api.ErrUnder, "refs/c", "", y, "refs/a/b", x, x)
	updates(t, r, "refs/a", x, "", "refs/a/b", x, y)
	has(t, r, "refs/a/b", y, "refs/c", x)
}

// ErrArg of a later change goes ahead of ErrStale of an earlier one, and so on.
func TestUpdateTellsErrorsInOrder(t *testing.T) {
	r := open(t, disk(t))
	x := id('1')
	updates(t, r, "refs/a", "", x)
	answers(t, r, 2, api.ErrArg, "refs/a/b", "", x, "refs/a", zero, x, "b", "", x)
	answers(t, r, 1, api.ErrStale, "refs/a/b", "", x, "refs/a", zero, x)
	answers(t, r, 0, api.ErrStale, "refs/a/b", x, x)
	answers(t, r, 0, api.ErrArg, "refs/a/b", "x", x)
	answers(t, r, 0, api.ErrUnder, "refs/a/b", "", x)
	has(t, r, "refs/a", x)
}

// A file that the ref has hides nothing that is changed; files of other names stay as they are.
func TestUpdateOfLooseRefs(t *testing.T) {
	x := id('4')
	packed := head + id('1') + " refs/a\n" + id('1') + " refs/b\n" + id('1') + " refs/c\n" + id('1') + " refs/d\n"
	f := disk(t, "packed-refs", packed, "refs/a", id('2')+"\n", "refs/b", id('2')+"\n", "refs/c", id('2')+"\n", "refs/d", "no ref", "refs/e", id('2')+"\n", "refs/f", id('2')+"\n", "refs/g", "no ref", "refs/h", "no ref")
	r := open(t, f)
	updates(t, r, "refs/a", id('2'), x, "refs/b", id('2'), "", "refs/d", id('1'), x, "refs/e", id('2'), "", "refs/g", zero, x)
	has(t, r, "refs/a", x, "refs/c", id('2'), "refs/d", x, "refs/f", id('2'), "refs/g", x)
	agrees(t, r, f)
	for name, text := range map[string]string{"refs/c": id('2') + "\n", "refs/f": id('2') + "\n", "refs/h": "no ref"} {
		reads(t, f, name, text)
	}
	has(t, open(t, f), "refs/a", x, "refs/c", id('2'), "refs/d", x, "refs/f", id('2'), "refs/g", x)
	updates(t, r, "refs/d", x, "", "refs/g", x, "", "refs/a", x, "")
	has(t, r, "refs/c", id('2'), "refs/f", id('2'))
	durable(t, f)
}

// step makes a random Update, and fails unless it does what the model does; Pack, SetHead and Open come between.
func step(t *testing.T, rnd *rand.Rand, r *ref.Refs, f *fs.FS) {
	t.Helper()
	names := []string{"refs/a", "refs/a/b", "refs/a/b/c", "refs/b", "refs/ab", "refs/a-", "refs/c/a", "refs/c"}
	refs := model{f}.refs()
	ids := append(slices.Sorted(maps.Values(refs)), "", "", id('1'), id('2'), id('3'))
	var l []api.Change
	for range rnd.Intn(5) {
		c := api.Change{Name: names[rnd.Intn(len(names))], New: ids[rnd.Intn(len(ids))]}
		switch rnd.Intn(8) {
		case 0, 1, 2:
			c.Old = refs[c.Name]
		case 3:
			c.Old = ids[rnd.Intn(len(ids))]
		case 4:
			c.Old = zero
		case 5:
			c.New = ""
		}
		if rnd.Intn(80) == 0 {
			c.Name += "."
		}
		l = append(l, c)
	}
	others := func() []string {
		return slices.DeleteFunc(f.List(""), func(n string) bool {
			return n == "packed-refs" || slices.ContainsFunc(l, func(c api.Change) bool { return c.Name == n })
		})
	}
	was, before := listing(f), others()
	want, n, e := modelUpdate(refs, l)
	if gotN, gotE := r.Update(l); gotN != n || gotE != e {
		t.Fatalf("%v, %v: %d, %v; not %d, %v", refs, l, gotN, gotE, n, e)
	}
	if now := listing(f); (e != api.OK || len(l) == 0) && !slices.Equal(now, was) {
		t.Fatalf("%v: %q, not %q", l, now, was)
	}
	if got := refsOf(r); !maps.Equal(got, want) {
		t.Fatalf("%v, %v: %v, not %v", refs, l, got, want)
	}
	if now := others(); !slices.Equal(now, before) {
		t.Fatalf("%v: %q, not %q", l, now, before)
	}
	if e == api.OK && len(l) > 0 {
		durable(t, f)
	}
}

func steps(t *testing.T, rnd *rand.Rand, r *ref.Refs, f *fs.FS, n int) {
	t.Helper()
	for range n {
		switch rnd.Intn(9) {
		case 0:
			was := model{f}.refs()
			if e := r.Pack(); e != api.OK || !maps.Equal(model{f}.refs(), was) || len(model{f}.loose()) > 0 {
				t.Fatal(e)
			}
		case 1:
			put(t, f, "refs/"+string(rune('a'+rnd.Intn(3))), id('4')+strings.Repeat("\n", rnd.Intn(3)))
		case 2:
			r = open(t, f)
		default:
			step(t, rnd, r, f)
		}
		agrees(t, r, f, "refs/a", "refs/b", "refs/a/b")
	}
}

func TestManySteps(t *testing.T) {
	rnd := rand.New(rand.NewSource(153))
	for range 150 {
		f := disk(t)
		steps(t, rnd, open(t, f), f, 60)
	}
}

// An Update either has all the space that it needs, or leaves everything as it was, even the files that refs have.
func TestUpdateWithoutSpace(t *testing.T) {
	x := id('1')
	for name, files := range map[string][]string{
		"none":   nil,
		"packed": {"packed-refs", head + x + " refs/a\n" + x + " refs/b\n"},
		"loose":  {"refs/a", x + "\n", "refs/b", x + "\n"},
		"both":   {"packed-refs", head + id('2') + " refs/a\n", "refs/a", x + "\n", "refs/b", x + "\n", "refs/d", x + "\n", "refs/c", "no ref"},
	} {
		full := 0
		for room := range 600 {
			f := small(t, files...)
			r := open(t, f)
			fill(t, f, room)
			was := listing(f)
			before := model{f}.refs()
			n, e := r.Update(changes("refs/a", "", "", "refs/b", "", id('2'), "refs/c", "", id('2')))
			if e == api.ErrFull {
				full++
				if n != 0 || !slices.Equal(listing(f), was) {
					t.Fatalf("%s, %d: %d, %v", name, room, n, f.List(""))
				}
				f.Crash(room%8, nil)
				if got := refsOf(open(t, f)); !maps.Equal(got, before) {
					t.Fatalf("%s, %d: %v", name, room, got)
				}
				continue
			}
			want := maps.Clone(before)
			delete(want, "refs/a")
			want["refs/b"], want["refs/c"] = id('2'), id('2')
			if n != 3 || e != api.OK || !maps.Equal(refsOf(r), want) {
				t.Fatalf("%s, %d: %d, %v", name, room, n, e)
			}
		}
		if full < 100 || full > 500 {
			t.Error(name, full)
		}
	}
	// Errors of the changes themselves go first.
	f := small(t)
	r := open(t, f)
	fill(t, f, 0)
	answers(t, r, 1, api.ErrStale, "refs/a", "", x, "refs/b", x, x)
	answers(t, r, 1, api.ErrUnder, "refs/b", "", "", "refs/a", "", x, "refs/a/b", "", x)
	answers(t, r, 0, api.ErrFull, "refs/b", "", "", "refs/a", "", x)
	answers(t, r, 0, api.OK)
}

// The files that an Update uses are named as 15.2 says, and a sweep of objects takes nothing away that it needs.
func TestFilesOfUpdate(t *testing.T) {
	files := []string{"packed-refs", head + id('1') + " refs/a\n", "refs/a", id('2') + "\n", "refs/b", id('2') + "\n"}
	change := changes("refs/a", id('2'), id('3'), "refs/b", id('2'), "", "refs/c", "", id('3'))
	for fuse := range 20 {
		f := disk(t, files...)
		r := open(t, f)
		before := model{f}.refs()
		after, _, _ := modelUpdate(before, change)
		known := append(f.List(""), "packed-refs")
		f.Fuse(fuse)
		_, e := r.Update(change)
		f.Crash(99, nil)
		for _, n := range f.List("") {
			if !slices.Contains(known, n) && !strings.HasSuffix(n, ".lock") {
				t.Errorf("%d: %q", fuse, n)
			}
		}
		if _, e := odb.Open(f); e != api.OK {
			t.Fatal(e)
		}
		if got := refsOf(open(t, f)); !maps.Equal(got, after) && (e == api.OK || !maps.Equal(got, before)) {
			t.Errorf("%d, %v: %v", fuse, e, got)
		}
	}
}

// 15.4

func TestPack(t *testing.T) {
	f := disk(t, "packed-refs", head+id('1')+" refs/a\n"+id('1')+" refs/b\n"+id('1')+" refs/x\n", "refs/b", id('2')+"\n", "refs/c/d", id('3')+"\n", "refs/x", "no ref", "refs/y", "no ref", "refs/z.lock", id('1')+"\n", "objects/o", "o", "HEAD", "ref: refs/c/d\n")
	r := open(t, f)
	was := r.List("")
	if e := r.Pack(); e != api.OK {
		t.Error(e)
	}
	want := []string{"HEAD", "ref: refs/c/d\n", "objects/o", "o", "packed-refs", head + id('1') + " refs/a\n" + id('2') + " refs/b\n" + id('3') + " refs/c/d\n" + id('1') + " refs/x\n", "refs/x", "no ref", "refs/y", "no ref", "refs/z.lock", id('1') + "\n"}
	if got := listing(f); !slices.Equal(got, want) {
		t.Errorf("%q, not %q", got, want)
	}
	durable(t, f)
	if got := r.List(""); !slices.Equal(got, was) {
		t.Errorf("%v, not %v", got, was)
	}
	if e := r.Pack(); e != api.OK { // again
		t.Error(e)
	}
	if got := listing(f); !slices.Equal(got, want) {
		t.Errorf("%q, not %q", got, want)
	}
	agrees(t, r, f)
}

func TestPackOfNothing(t *testing.T) {
	f := disk(t)
	r := open(t, f)
	if e := r.Pack(); e != api.OK {
		t.Error(e)
	}
	has(t, r)
	agrees(t, r, f)
	updates(t, r, "refs/a", "", id('1'))
	if e := r.Pack(); e != api.OK {
		t.Error(e)
	}
	has(t, r, "refs/a", id('1'))
	reads(t, f, "packed-refs", head+id('1')+" refs/a\n")
}

// Space may be lacking for this, and then nothing changes.
func TestPackWithoutSpace(t *testing.T) {
	packed := head + id('1') + " refs/a\n" + id('2') + " refs/b\n"
	for room := range len(packed) + 20 {
		f := small(t, "refs/a", id('1')+"\n", "refs/b", id('2')+"\n")
		r := open(t, f)
		fill(t, f, room)
		was := listing(f)
		switch e := r.Pack(); {
		case room < len(packed):
			if e != api.ErrFull || !slices.Equal(listing(f), was) {
				t.Error(room, e, f.List(""))
			}
		case e != api.OK || !slices.Equal(f.List(""), []string{"HEAD", "big", "packed-refs"}):
			t.Error(room, e, f.List(""))
		}
		has(t, r, "refs/a", id('1'), "refs/b", id('2'))
	}
}
