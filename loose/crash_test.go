package loose_test

import (
	"fmt"
	"math/rand"
	"slices"
	"testing"

	"stemma/api"
	"stemma/fs"
	"stemma/loose"
)

// 9.3

// whole fails unless every file at a Path is an object and each of the objects that were written is there.
func whole(t *testing.T, f *fs.FS, written map[string]string) {
	t.Helper()
	for _, id := range loose.IDs(f) {
		if kind, body, e := loose.Read(f, id); e != api.OK || modelID(kind, string(body)) != id {
			t.Fatalf("%s: %d, %.20q, %v", id, kind, body, e)
		}
	}
	for id, body := range written {
		if kind, b, e := loose.Read(f, id); kind != api.KBlob || string(b) != body || e != api.OK {
			t.Fatalf("%s: %d, %.20q, %v", id, kind, b, e)
		}
	}
}

// tries makes a Write that dies with the fuse, and a crash.
func tries(f *fs.FS, written map[string]string, body string, fuse, changes int, data []int) {
	f.Fuse(fuse)
	if id, e := loose.Write(f, api.KBlob, []byte(body)); e == api.OK {
		written[id] = body
	}
	f.Crash(changes, data)
}

// The ways in which one Write can crash are gone through, and behind each of them those of the next one, and of the next but one.
func TestAllCrashes(t *testing.T) {
	var datas [][]int
	for _, n := range []int{0, 5, 1 << 20} {
		datas = append(datas, []int{n, n, n})
	}
	type state struct {
		f       *fs.FS
		written map[string]string
	}
	first := state{disk(t), map[string]string{}}
	tries(first.f, first.written, "old", -1, 0, nil)
	states := []state{first}
	for range 3 {
		kept := map[string]state{}
		for _, s := range states {
			for fuse := range 8 {
				for changes := range 5 {
					for _, data := range datas {
						next := state{s.f.Copy(), map[string]string{}}
						for id, body := range s.written {
							next.written[id] = body
						}
						tries(next.f, next.written, "text", fuse, changes, data)
						whole(t, next.f, next.written)
						kept[fmt.Sprint(listing(next.f), next.written)] = next
					}
				}
			}
		}
		states = nil
		for _, s := range kept { // all durable, so that what is listed is all that there is
			states = append(states, s)
		}
	}
	if len(states) < 5 {
		t.Error("few states:", len(states))
	}
	for _, s := range states {
		writes(t, s.f, api.KBlob, "text")
		whole(t, s.f, s.written)
	}
}

func TestManyCrashes(t *testing.T) {
	rnd := rand.New(rand.NewSource(93))
	for range 15 {
		f := disk(t)
		written := map[string]string{}
		for range 40 {
			f.Fuse(rnd.Intn(25))
			for !f.Dead() {
				body := long(rnd.Intn(40))
				if id, e := loose.Write(f, api.KBlob, []byte(body)); e == api.OK {
					written[id] = body
				} else if e != api.ErrDead {
					t.Fatal(e)
				}
				if rnd.Intn(8) == 0 {
					f.SyncNames() // costs a change, so that the fuse ends also when all is written
				}
			}
			f.Crash(rnd.Intn(9)-1, []int{rnd.Intn(30) - 3, rnd.Intn(30), rnd.Intn(30)})
			if rnd.Intn(3) == 0 {
				f.Fuse(rnd.Intn(4))
				if e := loose.Sweep(f); e != api.OK && e != api.ErrDead {
					t.Fatal(e)
				}
				f.Crash(rnd.Intn(4), nil)
			}
			whole(t, f, written)
		}
		if e := loose.Sweep(f); e != api.OK || len(f.List("tmp/")) > 0 {
			t.Fatal(e)
		}
		whole(t, f, written)
		if len(f.List("")) != len(loose.IDs(f)) || len(written) < 2 {
			t.Fatal(f.List(""), len(written))
		}
	}
}

// W2: what is there stays through a crash at any change, of a Write or of a Sweep.
func TestCrashesLoseNothing(t *testing.T) {
	for fuse := range 9 {
		for changes := -1; changes < 9; changes++ {
			f := disk(t, "tmp/left", "x")
			old := writes(t, f, api.KTree, "old")
			f.Fuse(fuse)
			_, e := loose.Write(f, api.KBlob, []byte("new"))
			loose.Sweep(f)
			f.Crash(changes, []int{2, 2, 2})
			reads(t, f, api.KTree, "old")
			id := modelID(api.KBlob, "new")
			switch l := loose.IDs(f); {
			case slices.Contains(l, id):
				reads(t, f, api.KBlob, "new")
			case e == api.OK || !slices.Equal(l, []string{old}):
				t.Errorf("%d, %d: %q, %v", fuse, changes, l, e)
			}
		}
	}
}
