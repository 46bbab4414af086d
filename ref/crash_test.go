package ref_test

import (
	"fmt"
	"maps"
	"math/rand"
	"slices"
	"testing"

	"stemma/api"
	"stemma/fs"
	"stemma/loose"
	"stemma/ref"
)

// 15.5

// state is a file system, what refs there are in it, and what HEAD has.
type state struct {
	f    *fs.FS
	refs map[string]string
	head string
}

// call is a call that may die, with what there is then, as it should be.
type call struct {
	make func(r *ref.Refs) api.Errno
	then func(s state) state
}

func update(words ...string) call {
	return call{
		func(r *ref.Refs) api.Errno { _, e := r.Update(changes(words...)); return e },
		func(s state) state { s.refs, _, _ = modelUpdate(s.refs, changes(words...)); return s },
	}
}

func calls() map[string]call {
	return map[string]call{
		"set":    update("refs/a", "", id('3'), "refs/b", "", id('3'), "refs/d", "", id('4')),
		"delete": update("refs/a", "", "", "refs/c", "", ""),
		"swap":   update("refs/b", "", "", "refs/c", "", id('5'), "refs/g", "", id('5')),
		"pack":   {(*ref.Refs).Pack, func(s state) state { return s }},
		"head":   {func(r *ref.Refs) api.Errno { return r.SetHead("refs/b") }, func(s state) state { s.head = "refs/b"; return s }},
	}
}

// is tells whether an Open of f finds the same as s tells. It may change f.
func (s state) is(f *fs.FS) bool {
	r, e := ref.Open(f)
	if e != api.OK {
		return false
	}
	head, e := r.Head()
	return maps.Equal(refsOf(r), s.refs) && head == s.head && e == api.OK
}

// dies makes a call with a fuse, and calls each with every crash that can follow; Opens may die as well. It tells whether the call died.
func (s state) dies(t *testing.T, c call, fuse int, each func(state)) bool {
	t.Helper()
	died := s.f.Copy()
	r := open(t, died)
	died.Fuse(fuse)
	e := c.make(r)
	then := c.then(s)
	for names := range 18 {
		for _, data := range [][]int{nil, slices.Repeat([]int{41}, 9)} {
			f := died.Copy()
			f.Crash(names, data)
			loose.Sweep(f)
			for again := range 4 {
				f.Fuse(again)
				ref.Open(f)
				f.Crash(names-again, data)
			}
			next := state{f, s.refs, s.head}
			if e == api.OK || !next.is(f.Copy()) {
				next = state{f, then.refs, then.head}
			}
			if g := f.Copy(); !next.is(g) {
				t.Fatalf("%d, %d, %v: %q\nof %q", fuse, names, e, listing(g), listing(s.f))
			}
			each(next)
		}
	}
	return died.Dead()
}

func firstStates(t *testing.T) map[string]state {
	t.Helper()
	states := map[string]state{}
	for name, f := range map[string]*fs.FS{
		"none":   disk(t, "HEAD", "ref: refs/x\n"),
		"packed": disk(t, "HEAD", "ref: refs/x\n", "packed-refs", head+id('1')+" refs/a\n"+id('1')+" refs/b\n"+id('1')+" refs/c\n"),
		"loose":  disk(t, "HEAD", "ref: refs/x\n", "refs/a", id('2')+"\n", "refs/b", id('2')+"\n", "refs/c", id('2')+"\n"),
		"both":   disk(t, "HEAD", "ref: refs/x\n", "packed-refs", head+id('1')+" refs/a\n"+id('1')+" refs/b\n", "refs/a", id('2')+"\n", "refs/c", id('2')+"\n", "refs/d", id('2')+"\n", "refs/g", "no ref"),
	} {
		states[name] = state{f, model{f}.refs(), "refs/x"}
	}
	return states
}

// Each call crashes at each of its changes, with each of them kept and lost, and so does the one that follows it, on whatever it left.
func TestAllCrashes(t *testing.T) {
	t.Parallel()
	states := firstStates(t)
	for round := range 3 {
		next := map[string]state{}
		for _, name := range slices.Sorted(maps.Keys(states)) {
			for _, c := range calls() {
				for fuse := range 30 {
					if !states[name].dies(t, c, fuse, func(s state) {
						next[fmt.Sprint(listing(s.f), s.refs)] = s // all durable, so that what is listed is all that there is
					}) {
						break
					}
					if fuse == 29 {
						t.Error(name, "doesn't end")
					}
				}
			}
		}
		states = next
		if len(states) < 10 {
			t.Error(round, "few states:", len(states))
		}
		for len(states) > 24 { // the same ones each time
			l := slices.Sorted(maps.Keys(states))
			for i := 0; i < len(l); i += 2 {
				delete(states, l[i])
			}
		}
	}
}

// HEAD, too, is as it was or as it is set, from the first Open on.
func TestCrashesOfOpen(t *testing.T) {
	for fuse := range 8 {
		for names := range 8 {
			for data := range 25 {
				f := disk(t, "refs/a", id('1')+"\n", "packed-refs.lock", "x", "HEAD.lock", "y", "loose-refs.lock", "z")
				f.Fuse(fuse)
				r, e := ref.Open(f)
				if (r == nil) != (e != api.OK) || e != api.OK && e != api.ErrDead {
					t.Fatal(e)
				}
				f.Crash(names, slices.Repeat([]int{data}, 5))
				if got, e2 := (model{f}).head(); e == api.OK && (got != "refs/heads/main" || e2 != api.OK) {
					t.Fatal(fuse, names, got, e2)
				}
				if !(state{f, map[string]string{"refs/a": id('1')}, "refs/heads/main"}).is(f) || len(f.List("")) != 2 {
					t.Fatalf("%d, %d: %q", fuse, names, listing(f))
				}
			}
		}
	}
}

// Bytes that a crash cuts off can make a ref of a file that was none. It hides no change that was told to be made.
func TestCrashMakesARef(t *testing.T) {
	for fuse := range 20 {
		for names := range 12 {
			f := disk(t, "packed-refs", head+id('1')+" refs/a\n", "refs/a", id('2')+"\n", "refs/b", id('2')+"\n")
			r := open(t, f)
			f.Append("refs/a", []byte("more"))
			f.Append("refs/b", []byte("more"))
			has(t, r, "refs/a", id('1'))
			f.Fuse(fuse)
			_, e := r.Update(changes("refs/a", id('1'), id('3'), "refs/b", zero, ""))
			f.Crash(names, nil)
			if r := open(t, f); e == api.OK {
				has(t, r, "refs/a", id('3'))
			}
		}
	}
}

func TestManyCrashes(t *testing.T) {
	t.Parallel()
	rnd := rand.New(rand.NewSource(155))
	for range 60 {
		s := state{f: disk(t), refs: map[string]string{}, head: "refs/heads/main"}
		for range 40 {
			r, e := ref.Open(s.f)
			if e == api.OK {
				s.f.Fuse(rnd.Intn(40))
			}
			was := s
			for e == api.OK {
				l := calls()
				names := slices.Sorted(maps.Keys(l))
				c := l[names[rnd.Intn(len(names))]]
				s = c.then(s)
				if e = c.make(r); e == api.OK {
					was = s
					e = s.f.SyncNames() // costs a change, so that the fuse ends also when nothing is to be packed
				}
			}
			s.f.Crash(rnd.Intn(14)-1, []int{rnd.Intn(50) - 3, rnd.Intn(50), rnd.Intn(200), rnd.Intn(200)})
			if rnd.Intn(2) == 0 {
				s.f.Fuse(rnd.Intn(5))
				ref.Open(s.f)
				s.f.Crash(rnd.Intn(5), []int{rnd.Intn(50)})
			}
			if !s.is(s.f) {
				s = was
			}
			if !s.is(s.f) {
				t.Fatalf("%q is neither %v nor %v", listing(s.f), s.refs, was.refs)
			}
			if rnd.Intn(3) == 0 {
				n := "refs/" + string(rune('a'+rnd.Intn(5)))
				put(t, s.f, n, id('6')+"\n")
				s.refs = maps.Clone(s.refs)
				s.refs[n] = id('6')
			}
		}
	}
}
