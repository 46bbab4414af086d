package ref_test

import (
	"fmt"
	"maps"
	"math/rand"
	"slices"
	"strings"
	"testing"

	"stemma/api"
	"stemma/fs"
	"stemma/ref"
)

// 15.1

func TestPacked(t *testing.T) {
	for _, x := range []struct {
		l    []api.Ref
		want string
	}{
		{nil, head},
		{[]api.Ref{}, head},
		{[]api.Ref{{Name: "refs/a", ID: id('1')}}, head + id('1') + " refs/a\n"},
		{[]api.Ref{{Name: "refs/b", ID: id('1')}, {Name: "refs/a", ID: id('2')}}, head + id('2') + " refs/a\n" + id('1') + " refs/b\n"},
		// Bytewise: a dash before a slash before a letter, and a prefix before what is longer.
		{[]api.Ref{{Name: "refs/a/b", ID: id('1')}, {Name: "refs/é", ID: id('2')}, {Name: "refs/ab", ID: id('3')}, {Name: "refs/a-b", ID: id('4')}, {Name: "refs/a", ID: id('5')}, {Name: "refs/B", ID: id('6')}},
			head + id('6') + " refs/B\n" + id('5') + " refs/a\n" + id('4') + " refs/a-b\n" + id('1') + " refs/a/b\n" + id('3') + " refs/ab\n" + id('2') + " refs/é\n"},
		// What no ref is is written, too.
		{[]api.Ref{{}, {Name: "x y\n", ID: "z"}}, head + " \nz x y\n\n"},
		{[]api.Ref{{Name: "a", ID: "2"}, {Name: "a", ID: "1"}}, head + "2 a\n1 a\n"},
	} {
		was := slices.Clone(x.l)
		if got := string(ref.Packed(x.l)); got != x.want {
			t.Errorf("%v: %q, not %q", x.l, got, x.want)
		}
		if !slices.Equal(x.l, was) {
			t.Errorf("%v, not %v", x.l, was)
		}
	}
}

// Refs of one name stay in their order, however many there are.
func TestPackedOfTwice(t *testing.T) {
	var l []api.Ref
	lines := map[string]string{}
	for i := range 60 {
		x := api.Ref{Name: "refs/" + string(rune('a'+i*7%3)), ID: fmt.Sprintf("%040d", i)}
		l = append(l, x)
		lines[x.Name] += x.ID + " " + x.Name + "\n"
	}
	if got, want := string(ref.Packed(l)), head+lines["refs/a"]+lines["refs/b"]+lines["refs/c"]; got != want {
		t.Errorf("%q, not %q", got, want)
	}
}

// unpacks fails unless Unpacked tells what the model tells.
func unpacks(t *testing.T, b string) bool {
	t.Helper()
	want, ok := modelUnpacked(b)
	l, e := ref.Unpacked([]byte(b))
	if !ok {
		if e != api.ErrForm || len(l) > 0 {
			t.Fatalf("%q: %v, %v", b, l, e)
		}
		return false
	}
	if e != api.OK || len(l) != len(want) || b != "" && string(ref.Packed(l)) != b {
		t.Fatalf("%q: %v, %v", b, l, e)
	}
	for i, x := range l {
		if want[x.Name] != x.ID || i > 0 && l[i-1].Name >= x.Name {
			t.Fatalf("%q: %v", b, l)
		}
	}
	return true
}

func TestUnpacked(t *testing.T) {
	a, b := id('1')+" refs/a\n", id('2')+" refs/b\n"
	for _, s := range []string{"", head, head + a, head + a + b, head + zero + " refs/a\n", head + id('f') + " refs/" + strings.Repeat("a", 95) + "\n", head + a + id('1') + " refs/a/b\n", head + id('1') + " refs/a#\n"} {
		if !unpacks(t, s) {
			t.Errorf("%q isn't accepted", s)
		}
	}
	for _, s := range []string{
		"x", "\n", head[1:], head[:len(head)-1], head[:len(head)-2] + "\n", strings.ToUpper(head), head + head, " " + head, "\ufeff" + head,
		strings.ReplaceAll(head, "\n", "\r\n"), "# pack-refs with: peeled \n", "# pack-refs with: peeled fully-peeled \n" + a, a, a + head, // as other versions of Git write it
		head + "\n", head + a + "\n", head + "\n" + a, head + a + "\n" + b, head + a + "#\n", head + a + "# text\n" + b, head + a + "^" + id('1') + "\n", // a tag's object
		head + a[:len(a)-1], head + a + b[:40], head + a + b[:20], head + a + b[:41], head + a + " \n", head + a + " ",
		head + b + a, head + a + a, head + a + id('2') + " refs/a\n", head + a + b + a, // the order
		head + id('1') + " refs/é\n" + b, head + id('1') + " refs/a/b\n" + id('1') + " refs/a-b\n",
		head + id('1') + "  refs/a\n", head + id('1') + "\trefs/a\n", head + id('1') + "refs/a\n", head + " " + a, head + id('1') + " refs/a \n", head + id('1') + " refs/a\r\n", head + "refs/a " + id('1') + "\n",
		head + id('A') + " refs/a\n", head + id('g') + " refs/a\n", head + id('1')[1:] + " refs/a\n", head + id('1') + "1 refs/a\n", head + " refs/a\n", // no Hash
		head + id('1') + " refs/.a\n", head + id('1') + " refs\n", head + id('1') + " HEAD\n", head + id('1') + " \n", head + id('1') + "\n", head + id('1') + " refs/a.lock\n", head + id('1') + " refs/" + strings.Repeat("a", 96) + "\n", head + id('1') + " refs/\xff\n", head + id('1') + " refs/a\x00\n",
	} {
		if unpacks(t, s) {
			t.Errorf("%q is accepted", s)
		}
	}
}

// Every byte another one, one more, and one less.
func TestUnpackedEveryByte(t *testing.T) {
	s := head + id('1') + " refs/a\n" + "0123456789abcdef0123456789abcdef01234567 refs/b/c\n"
	accepted := 0
	for at := range len(s) + 1 {
		for c := range 256 {
			x := string([]byte{byte(c)})
			texts := []string{s[:at] + x + s[at:]}
			if at < len(s) {
				texts = append(texts, s[:at]+x+s[at+1:], s[:at]+s[at+1:], s[:at])
			}
			for _, text := range texts {
				if unpacks(t, text) {
					accepted++
				}
			}
		}
	}
	if accepted < 1000 {
		t.Error(accepted)
	}
}

func TestPackedRoundTrip(t *testing.T) {
	rnd := rand.New(rand.NewSource(151))
	for range 300 {
		refs := map[string]string{}
		for range rnd.Intn(12) {
			refs[someName(rnd)] = someID(rnd)
		}
		var l []api.Ref
		for n, id := range refs {
			l = append(l, api.Ref{Name: n, ID: id})
		}
		b := ref.Packed(l)
		if string(b) != modelPacked(refs) || !unpacks(t, string(b)) {
			t.Fatalf("%q of %v", b, refs)
		}
	}
}

func someName(rnd *rand.Rand) string {
	parts := []string{"a", "b", "a", "ab", "é", "a-b"}
	s := "refs"
	for range 1 + rnd.Intn(3) {
		s += "/" + parts[rnd.Intn(len(parts))]
	}
	return s
}

func someID(rnd *rand.Rand) string {
	return id("0123456789abcdef"[rnd.Intn(16)])
}

// A file of a ref's own hides what is packed of it, unless it isn't a ref.
func TestLooseAndPacked(t *testing.T) {
	f := disk(t, "packed-refs", head+id('1')+" refs/a\n"+id('2')+" refs/b\n"+id('3')+" refs/c/d\n",
		"refs/b", id('4')+"\n", "refs/heads/x", id('5')+"\n", "refs/c/d", id('6')+"\n", "refs/z", zero+"\n")
	r := open(t, f)
	has(t, r, "refs/a", id('1'), "refs/b", id('4'), "refs/c/d", id('6'), "refs/heads/x", id('5'), "refs/z", zero)
	agrees(t, r, f, "refs/a", "refs/c", "refs/", "refs", "", "r", "refs/b/", "packed-refs", "HEAD")
}

func TestFilesThatAreNoRefs(t *testing.T) {
	good := id('4') + "\n"
	for _, text := range []string{"", "\n", "x", id('4'), id('4') + "\n\n", id('4') + "\r\n", " " + good, "\n" + good, id('4') + " \n", good + good, id('4')[1:] + "\n", id('4') + "4\n", id('A') + "\n", id('g') + "\n", "ref: refs/heads/main\n", id('4') + "\x00", "# " + good, strings.Repeat("4", 41), "\x00" + good, strings.Repeat("é", 20) + "\n"} {
		f := disk(t, "packed-refs", head+id('1')+" refs/a\n", "refs/a", text, "refs/b", text)
		r := open(t, f)
		has(t, r, "refs/a", id('1'))
		agrees(t, r, f)
		put(t, f, "refs/a", good)
		has(t, r, "refs/a", id('4'))
	}
}

func TestNamesThatAreNoRefs(t *testing.T) {
	good := id('4') + "\n"
	f := disk(t)
	for _, n := range []string{"refs", "refs/", "refs//a", "refs/a/", "refs/.a", "refs/a.lock", "refs/d.lock/e", "refs/a..b", "refs/a b", "refs/a.", "Refs/a", "heads/a", "x/refs/a", "/refs/a", "refs/\xff", "refs/" + strings.Repeat("a", 96), "tmp/refs/a", "objects/aa"} {
		put(t, f, n, good)
	}
	put(t, f, "refs/"+strings.Repeat("a", 95), good)
	r := open(t, f)
	has(t, r, "refs/"+strings.Repeat("a", 95), id('4'))
	agrees(t, r, f, "HEAD", "packed-refs", "", "\x00")
	updates(t, r, "refs/b", "", id('1'))
	if e := r.Pack(); e != api.OK {
		t.Error(e)
	}
	agrees(t, r, f)
	if n := len(f.List("")); n != 18+2 {
		t.Error(f.List(""))
	}
}

func TestHead(t *testing.T) {
	for text, want := range map[string]string{
		"ref: refs/heads/main\n": "refs/heads/main", "ref: refs/x\n": "refs/x", "ref: refs/é/a\n": "refs/é/a",
		"ref: refs/heads/main": "", "ref: refs/heads/main\n\n": "", "ref: refs/heads/main\r\n": "", "ref:refs/heads/main\n": "", "ref:  refs/heads/main\n": "", "ref: refs/heads/main \n": "", "Ref: refs/a\n": "", " ref: refs/a\n": "",
		"refs/heads/main\n": "", "ref: \n": "", "ref: HEAD\n": "", "ref: refs/a..b\n": "", "ref: refs/a\nref: refs/b\n": "", "": "", "\n": "", "ref: ": "", "ref: refs/\xff\n": "", "ref: ref: refs/a\n": "", id('1') + "\n": "", "ref: refs/" + strings.Repeat("a", 96) + "\n": "",
	} {
		f := disk(t, "HEAD", text)
		r := open(t, f)
		e := api.OK
		if want == "" {
			e = api.ErrForm
		}
		if s, gotE := r.Head(); s != want || gotE != e {
			t.Errorf("%q: %q, %v", text, s, gotE)
		}
		reads(t, f, "HEAD", text) // Open leaves it as it is
		agrees(t, r, f)
		f.Remove("HEAD")
		if s, e := r.Head(); s != "" || e != api.ErrForm {
			t.Errorf("%q, %v", s, e)
		}
	}
}

// 15.2

func TestOpen(t *testing.T) {
	f := disk(t)
	r := open(t, f)
	if got := listing(f); !slices.Equal(got, []string{"HEAD", "ref: refs/heads/main\n"}) {
		t.Errorf("%q", got)
	}
	durable(t, f)
	has(t, r)
	if s, e := r.Head(); s != "refs/heads/main" || e != api.OK {
		t.Error(s, e)
	}
	if e := r.SetHead("refs/x"); e != api.OK {
		t.Error(e)
	}
	if s, e := open(t, f).Head(); s != "refs/x" || e != api.OK {
		t.Error(s, e)
	}
}

func TestOpenTellsErrors(t *testing.T) {
	if r, e := ref.Open(nil); r != nil || e != api.ErrArg {
		t.Error(e)
	}
	for _, text := range []string{"x", head + "x", head[1:], head + id('1') + " refs/a", head + id('1') + " refs/b\n" + id('1') + " refs/a\n"} {
		f := disk(t, "packed-refs", text, "packed-refs.lock", head, "HEAD.lock", "x", "refs/b", id('2')+"\n")
		was := listing(f)
		if r, e := ref.Open(f); r != nil || e != api.ErrForm {
			t.Errorf("%q: %v", text, e)
		}
		if got := listing(f); !slices.Equal(got, was) { // nothing has been done
			t.Errorf("%q, not %q", got, was)
		}
		put(t, f, "packed-refs", "")
		has(t, open(t, f), "refs/b", id('2'))
	}
	f := disk(t)
	die(f)
	if r, e := ref.Open(f); r != nil || e != api.ErrDead {
		t.Error(e)
	}
	for quota := range 30 {
		f, _ := fs.New(quota)
		want := api.OK
		if quota < len("ref: refs/heads/main\n") {
			want = api.ErrFull
		}
		if r, e := ref.Open(f); (r == nil) != (want != api.OK) || e != want || want != api.OK && len(f.List("")) > 0 {
			t.Error(quota, e, f.List(""))
		}
	}
}

// What a crash can leave of the files that changes use means nothing, and goes; files of others stay.
func TestOpenRemovesLocks(t *testing.T) {
	packed := head + id('1') + " refs/a\n"
	for _, text := range []string{"", "x", head, head + id('2') + " refs/a\n", packed[:60], "ref: refs/x\n"} {
		others := []string{"objects/x", "y", "refs/a.lock", "z", "refs/b", id('3') + "\n", "refs/b.lock", id('4') + "\n", "tmp/x", "w"}
		f := disk(t, append(others, "HEAD", "ref: refs/b\n", "packed-refs", packed)...)
		want := listing(f)
		put(t, f, "packed-refs.lock", text)
		put(t, f, "HEAD.lock", text)
		put(t, f, "loose-refs.lock", text)
		r := open(t, f)
		if got := listing(f); !slices.Equal(got, want) {
			t.Errorf("%q, not %q", got, want)
		}
		durable(t, f)
		has(t, r, "refs/a", id('1'), "refs/b", id('3'))
		if s, e := r.Head(); s != "refs/b" || e != api.OK {
			t.Error(s, e)
		}
	}
}

func TestGetAndList(t *testing.T) {
	f := disk(t, "refs/heads/b", id('2')+"\n", "refs/heads/a/c", id('3')+"\n")
	r := open(t, f)
	updates(t, r, "refs/heads/a-", "", id('1'), "refs/tags/a", "", id('4'))
	for name, want := range map[string]string{"refs/heads/b": id('2'), "refs/heads/a/c": id('3'), "refs/heads/a-": id('1'), "refs/tags/a": id('4')} {
		if got, ok := r.Get(name); got != want || !ok {
			t.Errorf("%q: %q, %v", name, got, ok)
		}
	}
	for _, name := range []string{"", "refs/heads/a", "refs/heads/a/", "refs/heads", "refs/heads/bb", "refs/heads/", "HEAD", "packed-refs", "b", "heads/b", "refs/heads/b\n", "refs/heads/b\x00", "refs/heads/../heads/b", strings.Repeat("a", 300), "\xff"} {
		if got, ok := r.Get(name); got != "" || ok {
			t.Errorf("%q: %q", name, got)
		}
	}
	all := []string{"refs/heads/a-", "refs/heads/a/c", "refs/heads/b", "refs/tags/a"}
	for prefix, want := range map[string][]string{"": all, "r": all, "refs": all, "refs/": all, "refs/heads/": all[:3], "refs/heads/a": all[:2], "refs/heads/a/": all[1:2], "refs/heads/b": all[2:3], "refs/t": all[3:], "refs/tags/a": all[3:], "refs/tags/ab": nil, "x": nil, "REFS": nil, "refs/heads/c": nil, "\xff": nil, "\x00": nil, "HEAD": nil} {
		var got []string
		for _, x := range r.List(prefix) {
			if id, ok := r.Get(x.Name); id != x.ID || !ok {
				t.Errorf("%q: %q, not %q", x.Name, id, x.ID)
			}
			got = append(got, x.Name)
		}
		if !slices.Equal(got, want) {
			t.Errorf("%q: %q, not %q", prefix, got, want)
		}
	}
	agrees(t, r, f)
}

func TestSetHead(t *testing.T) {
	f := disk(t)
	r := open(t, f)
	for _, s := range []string{"refs/x", "refs/heads/main", "refs/é", "refs/heads/not/there", "refs/" + strings.Repeat("a", 95)} {
		if e := r.SetHead(s); e != api.OK {
			t.Error(s, e)
		}
		reads(t, f, "HEAD", "ref: "+s+"\n")
		durable(t, f)
		if l := f.List(""); len(l) != 1 {
			t.Error(l)
		}
		if got, e := r.Head(); got != s || e != api.OK {
			t.Error(got, e)
		}
	}
	was := listing(f)
	for _, s := range []string{"", "x", "HEAD", "refs", "refs/", "refs/a.lock", "refs/a b", "refs/a\n", "refs/a..b", "ref: refs/a", "refs/" + strings.Repeat("a", 96), id('1')} {
		if e := r.SetHead(s); e != api.ErrArg {
			t.Error(s, e)
		}
	}
	if got := listing(f); !slices.Equal(got, was) {
		t.Errorf("%q, not %q", got, was)
	}
	die(f)
	if e := r.SetHead("refs/x"); e != api.ErrDead {
		t.Error(e)
	}
	if e := r.SetHead("x"); e != api.ErrArg {
		t.Error(e)
	}
	if s, e := r.Head(); s != "" || e != api.ErrDead {
		t.Error(s, e)
	}
}

// SetHead makes the calls of 15.2, of which each may be the last.
func TestSetHeadMakesTheseCalls(t *testing.T) {
	for _, left := range []string{"", "HEAD.lock"} {
		for fuse := range 8 {
			f := disk(t, "HEAD", "ref: refs/a\n")
			r := open(t, f)
			if left != "" {
				put(t, f, left, "left by a crash")
			}
			g := f.Copy()
			f.Fuse(fuse)
			g.Fuse(fuse)
			calls := []func() api.Errno{
				func() api.Errno { return g.Create("HEAD.lock") },
				func() api.Errno { return g.Append("HEAD.lock", []byte("ref: refs/b\n")) },
				func() api.Errno { return g.Sync("HEAD.lock") },
				func() api.Errno { return g.Rename("HEAD.lock", "HEAD") },
				g.SyncNames,
			}
			if left != "" {
				calls = slices.Insert(calls, 0, func() api.Errno { return g.Remove(left) })
			}
			if got, want := r.SetHead("refs/b"), makes(calls...); got != want {
				t.Errorf("%d: %v, not %v", fuse, got, want)
			}
			for names := range 6 {
				for data := range 20 {
					a, b := f.Copy(), g.Copy()
					a.Crash(names, []int{data, data})
					b.Crash(names, []int{data, data})
					if got, want := listing(a), listing(b); !slices.Equal(got, want) {
						t.Fatalf("%d, %d, %d: %q, not %q", fuse, names, data, got, want)
					}
				}
			}
		}
	}
}

func TestSetHeadWithoutSpace(t *testing.T) {
	for room := range 20 {
		f := small(t)
		r := open(t, f)
		fill(t, f, room)
		was := listing(f)
		e := r.SetHead("refs/b")
		if room < len("ref: refs/b\n") {
			if e != api.ErrFull || !slices.Equal(listing(f), was) {
				t.Error(room, e, f.List(""))
			}
		} else if e != api.OK {
			t.Error(room, e)
		}
	}
}

// 15.6

// Whatever the files have, the calls end and do what the model does, or tell an error.
func TestAnyFiles(t *testing.T) {
	rnd := rand.New(rand.NewSource(156))
	names := []string{"HEAD", "packed-refs", "refs/a", "refs/a/b", "refs/b", "packed-refs.lock", "HEAD.lock", "refs/a.lock", "tmp/a"}
	pieces := []string{head, id('1'), id('2'), zero, " refs/a", " refs/a/b", " refs/b", "\n", " ", "ref: refs/a", "x", "\xff", "\x00", "\n", "\n"}
	opened := 0
	for range 4000 {
		f := disk(t)
		for _, n := range names {
			if rnd.Intn(2) == 0 {
				continue
			}
			s := ""
			if n == "packed-refs" && rnd.Intn(3) > 0 {
				s = head
			}
			for range rnd.Intn(5) {
				s += pieces[rnd.Intn(len(pieces))]
			}
			put(t, f, n, s)
		}
		b, _ := f.Read("packed-refs")
		_, ok := modelUnpacked(string(b))
		r, e := ref.Open(f)
		if !ok {
			if r != nil || e != api.ErrForm {
				t.Fatalf("%q: %v", b, e)
			}
			continue
		}
		if e != api.OK {
			t.Fatal(e)
		}
		opened++
		agrees(t, r, f, names...)
		steps(t, rnd, r, f, 3)
	}
	if opened < 500 {
		t.Error(opened)
	}
}

// packed-refs that gets wrong behind Open's back is told, and left as it is.
func TestPackedGetsWrong(t *testing.T) {
	f := disk(t, "refs/a", id('1')+"\n")
	r := open(t, f)
	put(t, f, "packed-refs", "x")
	has(t, r, "refs/a", id('1'))
	if id, ok := r.Get("refs/b"); id != "" || ok {
		t.Error(id)
	}
	was := listing(f)
	answers(t, r, 0, api.ErrForm, "refs/b", "", id('1'), "refs/c", "", id('1'))
	answers(t, r, 1, api.ErrArg, "refs/b", "", id('1'), "c", "", id('1'))
	answers(t, r, 0, api.OK)
	if e := r.Pack(); e != api.ErrForm {
		t.Error(e)
	}
	if got := listing(f); !slices.Equal(got, was) {
		t.Errorf("%q, not %q", got, was)
	}
}

func TestDeadFileSystem(t *testing.T) {
	f := disk(t, "refs/a", id('1')+"\n")
	r := open(t, f)
	updates(t, r, "refs/b", "", id('2'))
	die(f)
	has(t, r)
	if id, ok := r.Get("refs/a"); id != "" || ok {
		t.Error(id)
	}
	answers(t, r, 0, api.ErrDead, "refs/b", "", id('1'))
	answers(t, r, 0, api.ErrDead, "refs/b", id('3'), id('1'))
	answers(t, r, 0, api.ErrArg, "b", "", id('1'))
	answers(t, r, 0, api.OK)
	if e := r.Pack(); e != api.ErrDead {
		t.Error(e)
	}
	f.Crash(-1, nil)
	has(t, r, "refs/a", id('1'), "refs/b", id('2'))
}

func TestResultsAreNewMemory(t *testing.T) {
	f := disk(t, "refs/a", id('1')+"\n", "packed-refs", head+id('2')+" refs/b\n")
	r := open(t, f)
	l := r.List("")
	clear(l[:cap(l)])
	has(t, r, "refs/a", id('1'), "refs/b", id('2'))
	given := []api.Ref{{Name: "refs/b", ID: id('2')}, {Name: "refs/a", ID: id('1')}, {Name: "refs/0", ID: id('0')}}
	was := slices.Clone(given)
	b := ref.Packed(given[:2])
	want := string(b)
	clear(b[:cap(b)])
	if got := string(ref.Packed(given[:2])); got != want || !slices.Equal(given, was) {
		t.Errorf("%q, %v", got, given)
	}
	b = []byte(want)
	unpacked, _ := ref.Unpacked(b)
	clear(b)
	if fmt.Sprint(unpacked) != fmt.Sprint([]api.Ref{was[1], was[0]}) {
		t.Error(unpacked)
	}
	clear(unpacked[:cap(unpacked)])
	changes := append(changes("refs/d", "", id('3'), "refs/c", "", id('4')), api.Change{Name: "spare"})
	kept := slices.Clone(changes)
	r.Update(changes[:2])
	if !slices.Equal(changes, kept) {
		t.Error(changes)
	}
	clear(changes)
	has(t, r, "refs/a", id('1'), "refs/b", id('2'), "refs/c", id('4'), "refs/d", id('3'))
}

// Two file systems have nothing to do with one another.
func TestTwoFileSystems(t *testing.T) {
	f, g := disk(t), disk(t)
	r, s := open(t, f), open(t, g)
	updates(t, r, "refs/a", "", id('1'))
	updates(t, s, "refs/a", zero, id('2'))
	has(t, r, "refs/a", id('1'))
	has(t, s, "refs/a", id('2'))
}

func TestManyRefs(t *testing.T) {
	f := disk(t)
	r := open(t, f)
	var l []api.Change
	want := map[string]string{}
	for i := range 20000 {
		n := fmt.Sprintf("refs/heads/%d/%d", i%100, i)
		l = append(l, api.Change{Name: n, Old: zero, New: id("123456789"[i%9])})
		want[n] = id("123456789"[i%9])
	}
	if n, e := r.Update(l); n != len(l) || e != api.OK {
		t.Fatal(n, e)
	}
	if !maps.Equal(refsOf(r), want) {
		t.Error("other refs")
	}
	for i := range l {
		l[i].Old, l[i].New = l[i].New, ""
	}
	if n, e := r.Update(l); n != len(l) || e != api.OK || len(r.List("")) > 0 {
		t.Fatal(n, e)
	}
}
