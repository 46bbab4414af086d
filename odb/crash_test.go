package odb_test

import (
	"fmt"
	"maps"
	"math/rand"
	"slices"
	"testing"

	"stemma/api"
	"stemma/fs"
	"stemma/odb"
)

// 13.4

// state is a file system, and the texts that are in it for certain.
type state struct {
	f     *fs.FS
	texts map[string]bool
}

func (s state) copied() state {
	return state{s.f.Copy(), maps.Clone(s.texts)}
}

// put, intake and repack are calls that may die; texts that they were to add are added if they tell that they did.
func (s state) put(store *odb.Store, text string) {
	if _, e := store.Put(api.KBlob, []byte(text)); e == api.OK {
		s.texts[text] = true
	}
}

func (s state) intake(store *odb.Store, text string) {
	from := "a longer text that changes little"
	if _, e := store.Intake([]byte(packed(ref(from, from+text), blob(text)))); e == api.OK {
		s.texts[text], s.texts[from+text] = true, true
	}
}

func (s state) repack(store *odb.Store) {
	store.Repack()
}

// whole fails unless a store is right in itself and has all texts; what it has besides is among others.
func (s state) whole(t *testing.T, others ...string) {
	t.Helper()
	store := on(t, s.f)
	if e := store.Check(); e != api.OK {
		t.Fatal(e)
	}
	known := map[string]bool{}
	for text := range s.texts {
		known[blobID(text)] = true
		if kind, b, e := store.Get(blobID(text)); kind != api.KBlob || string(b) != text || e != api.OK || !store.Has(blobID(text)) {
			t.Fatalf("%q: %d, %q, %v", text, kind, b, e)
		}
	}
	for _, text := range others {
		known[blobID(text)] = true
	}
	for _, id := range store.IDs() {
		if !known[id] {
			t.Fatal(id)
		}
	}
}

func first(t *testing.T) state {
	t.Helper()
	s := state{disk(t), map[string]bool{}}
	store := on(t, s.f)
	for _, text := range []string{"a longer text that changes little", "one", "two"} {
		s.put(store, text)
	}
	s.f.Crash(0, nil)
	s.whole(t)
	return s
}

// Each call crashes at each of its changes, with each of them kept and lost, and so does the one that follows it.
func TestAllCrashes(t *testing.T) {
	t.Parallel()
	calls := map[string]func(s state, store *odb.Store){
		"put":    func(s state, store *odb.Store) { s.put(store, "new") },
		"intake": func(s state, store *odb.Store) { s.intake(store, "new") },
		"again":  func(s state, store *odb.Store) { s.intake(store, "two") },
		"repack": state.repack,
	}
	others := []string{"new", "a longer text that changes littlenew", "a longer text that changes littletwo"}
	states := map[string]state{"": first(t)}
	for range 3 {
		next := map[string]state{}
		for _, name := range slices.Sorted(maps.Keys(states)) {
			for _, call := range slices.Sorted(maps.Keys(calls)) {
				for fuse := range 20 {
					died := states[name].copied()
					store := on(t, died.f)
					died.f.Fuse(fuse)
					calls[call](died, store)
					for changes := range 14 {
						s := died.copied()
						s.f.Crash(changes, slices.Repeat([]int{7 * (changes % 3)}, 9))
						s.whole(t, others...)
						next[fmt.Sprint(s.f.List(""), s.texts)] = s // all durable, so that what is listed is all that there is
					}
					if !died.f.Dead() {
						break
					}
				}
			}
		}
		states = next
		if len(states) < 5 {
			t.Error("few states:", len(states))
		}
		for len(states) > 12 { // the same ones each time
			l := slices.Sorted(maps.Keys(states))
			for i := 0; i < len(l); i += 2 {
				delete(states, l[i])
			}
		}
	}
}

func TestManyCrashes(t *testing.T) {
	t.Parallel()
	rnd := rand.New(rand.NewSource(134))
	for range 4 {
		s := first(t)
		var others []string
		for range 25 {
			store := on(t, s.f)
			s.f.Fuse(rnd.Intn(60))
			for !s.f.Dead() {
				text := fmt.Sprint("text", rnd.Intn(30))
				others = append(others, text, "a longer text that changes little"+text)
				switch rnd.Intn(4) {
				case 0, 1:
					s.put(store, text)
				case 2:
					s.intake(store, text)
				case 3:
					s.repack(store)
					s.f.SyncNames() // costs a change, so that the fuse ends also when all is packed
				}
			}
			s.f.Crash(rnd.Intn(12)-1, []int{rnd.Intn(30) - 3, rnd.Intn(300), rnd.Intn(30)})
			s.whole(t, others...)
		}
		store := on(t, s.f)
		ids := store.IDs()
		if e := store.Repack(); e != api.OK || !slices.Equal(store.IDs(), ids) || len(store.Packs()) != 1 || len(ids) < 20 {
			t.Error(e, len(ids))
		}
		s.whole(t, others...)
	}
}

// A Sweep that dies leaves all there is, however often.
func TestCrashesOfOpen(t *testing.T) {
	s := first(t)
	put(t, s.f, "tmp/a", "x")
	put(t, s.f, "tmp/b", "y")
	put(t, s.f, "tmp/c", "z")
	for fuse := range 4 {
		for changes := range 5 {
			c := s.copied()
			c.f.Fuse(fuse)
			if store, e := odb.Open(c.f); store != nil || e != api.ErrDead {
				t.Fatal(fuse, e)
			}
			c.f.Crash(changes, nil)
			c.whole(t)
		}
	}
}
