package draft_test

import (
	"fmt"
	"testing"

	"stemma/api"
	"stemma/draft"
	"stemma/fs"
)

func disk(t *testing.T, quota int) *fs.FS {
	t.Helper()
	f, e := fs.New(quota)
	if e != api.OK {
		t.Fatal(e)
	}
	return f
}

func TestWrite(t *testing.T) {
	f := disk(t, 100)
	for _, text := range []string{"first", "", "second"} { // each instead of the one before
		if e := draft.Write(f, "a", []byte(text)); e != api.OK {
			t.Fatal(e)
		}
		if b, e := f.Read("a"); string(b) != text || e != api.OK {
			t.Fatalf("%q, %v", b, e)
		}
	}
}

// The bytes are durable and the name isn't: in a crash that keeps the name, they are all there.
func TestWriteIsDurable(t *testing.T) {
	f := disk(t, 100)
	draft.Write(f, "a", []byte("text"))
	kept, lost := f.Copy(), f
	kept.Crash(1, nil)
	if b, e := kept.Read("a"); string(b) != "text" || e != api.OK {
		t.Errorf("%q, %v", b, e)
	}
	lost.Crash(0, nil)
	if _, e := lost.Read("a"); e != api.ErrNone {
		t.Error(e)
	}
}

func TestWriteTellsErrors(t *testing.T) {
	f := disk(t, 5)
	for _, x := range []struct {
		name, text string
		want       api.Errno
	}{
		{"", "text", api.ErrArg},
		{"a", "longer", api.ErrFull},
		{"b", "text", api.OK},
		{"b", "other", api.OK}, // for which there is room as soon as the one before is gone
		{"c", "x", api.ErrFull},
	} {
		if e := draft.Write(f, x.name, []byte(x.text)); e != x.want {
			t.Errorf("%q: %v, not %v", x.name, e, x.want)
		}
	}
	if l := fmt.Sprint(f.List("")); l != "[a b c]" { // what is unfinished stays
		t.Error(l)
	}
	for fuse := range 5 {
		f := disk(t, 100)
		draft.Write(f, "a", nil)
		f.Fuse(fuse)
		want := api.ErrDead
		if fuse == 4 {
			want = api.OK
		}
		if e := draft.Write(f, "a", []byte("text")); e != want {
			t.Errorf("%d: %v, not %v", fuse, e, want)
		}
	}
}
