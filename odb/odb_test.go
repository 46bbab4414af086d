package odb_test

import (
	"bytes"
	"fmt"
	"math"
	"math/rand"
	"slices"
	"strings"
	"testing"

	"stemma/api"
	"stemma/fs"
	"stemma/idx"
	"stemma/loose"
	"stemma/odb"
	"stemma/pack"
)

const (
	id1 = "0123456789abcdef0123456789abcdef01234567"
	id2 = "fedcba9876543210fedcba9876543210fedcba98"
)

func notHashes() []string {
	return []string{"", "q", "0", id1[1:], id1 + "0", " " + id1[1:], strings.ToUpper(id1), loose.Path(id1), packName(id1), strings.Repeat("x", 40), strings.Repeat("\x00", 40), strings.Repeat("0", 64), strings.Repeat("0", 300)}
}

func die(f *fs.FS) {
	f.Fuse(0)
	f.SyncNames()
}

// gets holds a Get to tell this object, and Has to know it.
func gets(t *testing.T, f *fs.FS, kind int, body string) {
	t.Helper()
	s := on(t, f)
	id := modelID(kind, body)
	got, b, e := s.Get(id)
	if got != kind || string(b) != body || e != api.OK || !s.Has(id) {
		t.Errorf("%d, %.40q: %d, %.40q, %v", kind, body, got, b, e)
	}
}

func doesNotGet(t *testing.T, f *fs.FS, id string, want api.Errno) {
	t.Helper()
	if kind, b, e := on(t, f).Get(id); kind != 0 || b != nil || e != want {
		t.Errorf("%q: %d, %.40q, %v; not %v", id, kind, b, e, want)
	}
}

// 13.1

func TestOpenSweeps(t *testing.T) {
	files := []string{"a", "x", "objects/pack/pack-" + id1 + ".pack", "y", "tm", "z", "tmp", "0"}
	f := disk(t, append(files, "tmp/"+id1, "u", "tmp/"+id2+".pack", "v", "tmp/", "w")...)
	on(t, f)
	if got, want := listing(f), listing(disk(t, files...)); !slices.Equal(got, want) || len(f.List("tmp/")) > 0 {
		t.Errorf("%q, not %q", got, want)
	}
	f.Crash(0, nil)
	if l := f.List("tmp/"); len(l) > 0 {
		t.Errorf("%q came back", l)
	}
	f.Fuse(0)
	on(t, f) // nothing to sweep is nothing to change
}

func TestOpenErrors(t *testing.T) {
	if s, e := odb.Open(nil); s != nil || e != api.ErrArg {
		t.Error(s, e)
	}
	for fuse := range 3 {
		f := disk(t, "tmp/a", "x", "tmp/b", "y")
		f.Fuse(fuse)
		if s, e := odb.Open(f); s != nil || e != api.ErrDead {
			t.Error(fuse, s, e)
		}
	}
}

func TestPacks(t *testing.T) {
	f := disk(t)
	if l := on(t, f).Packs(); len(l) > 0 {
		t.Errorf("%q", l)
	}
	var want []string
	for _, c := range "3fa019" { // what the files have is of no importance
		id := strings.Repeat(string(c), 40)
		put(t, f, packName(id), "")
		put(t, f, indexName(id), "no index")
		want = append(want, id)
	}
	slices.Sort(want)
	for _, id := range append(notHashes(), "", strings.Repeat("2", 39), strings.Repeat("2", 41)) {
		for _, name := range []string{packName(id), indexName(id)} {
			if f.Create(name) == api.OK {
				put(t, f, name, "x")
			}
		}
	}
	four, five, six := strings.Repeat("4", 40), strings.Repeat("5", 40), strings.Repeat("6", 40)
	for _, name := range []string{packName(four), indexName(five), packName(six) + "x", indexName(six), packName(six)[1:], "objects/pack/" + six + ".pack", "objects/pack/" + six + ".idx", packName(six) + ".pack"} {
		put(t, f, name, "x")
	}
	if got := on(t, f).Packs(); !slices.Equal(got, want) {
		t.Errorf("%q, not %q", got, want)
	}
	agrees(t, f)
	die(f)
	if got := on(t, f).Packs(); len(got) > 0 {
		t.Errorf("%q", got)
	}
}

// A Put is told from loose.Write by nothing.
func TestPutIsAWrite(t *testing.T) {
	id := blobID("text")
	for i, files := range [][]string{
		nil,
		{"tmp/" + id, "left"},
		{loose.Path(id), string(loose.File(api.KBlob, []byte("text")))},
		{loose.Path(id), "no object"},
		{packName(id1), "", indexName(id1), "", packName(id2), "x"},
	} {
		for fuse := range 9 {
			t.Run(fmt.Sprint(i, fuse), func(t *testing.T) {
				f, g := disk(t), disk(t)
				s := on(t, f)
				for i := 0; i < len(files); i += 2 {
					put(t, f, files[i], files[i+1])
					put(t, g, files[i], files[i+1])
				}
				f.Fuse(fuse)
				g.Fuse(fuse)
				got, e := s.Put(api.KBlob, []byte("text"))
				want, e2 := loose.Write(g, api.KBlob, []byte("text"))
				if got != want || e != e2 {
					t.Errorf("%q, %v; not %q, %v", got, e, want, e2)
				}
				same(t, f, g)
			})
		}
	}
}

func TestPutOfEveryKind(t *testing.T) {
	f := disk(t)
	s := on(t, f)
	for kind := 1; kind <= 4; kind++ { // whether it is a valid one isn't asked
		for _, body := range []string{"", "text", lines(1, 500), strings.Repeat("x", 65536)} {
			if id, e := s.Put(kind, []byte(body)); e != api.OK || id != modelID(kind, body) {
				t.Error(kind, len(body), id, e)
			}
			gets(t, f, kind, body)
		}
	}
	if len(loose.IDs(f)) != 16 || len(f.List("")) != 16 {
		t.Errorf("%q", f.List(""))
	}
}

func TestPutOfWhatIsInAPack(t *testing.T) {
	f := disk(t)
	id := packs(t, f, blob("text"), blob("other"))
	f.Fuse(0)
	s := on(t, f)
	for _, body := range []string{"text", "other"} {
		if id, e := s.Put(api.KBlob, []byte(body)); id != blobID(body) || e != api.OK {
			t.Error(id, e)
		}
	}
	if _, e := s.Put(api.KTag, []byte("text")); e != api.ErrDead { // another object
		t.Error(e)
	}
	f.Crash(0, nil)
	for _, hides := range []func(){
		func() { put(t, f, indexName(id), "no index") },
		func() { f.Remove(packName(id)) },
	} {
		hides()
		c := f.Copy()
		if id, e := on(t, c).Put(api.KBlob, []byte("text")); e != api.OK || !slices.Contains(loose.IDs(c), id) {
			t.Error(id, e)
		}
	}
}

func TestPutErrors(t *testing.T) {
	f := disk(t)
	long := strings.Repeat("x", 65537)
	var l []api.Object
	for _, kind := range []int{0, 1, 3} { // 0 as all that are none
		for _, body := range []string{"", long} {
			l = append(l, api.Object{ID: modelID(kind, body), At: 12}) // an index may tell anything
		}
	}
	index, e := idx.Build(l, id1)
	if e != api.OK {
		t.Fatal(e)
	}
	put(t, f, packName(id1), "")
	put(t, f, indexName(id1), string(index))
	g := f.Copy()
	s := on(t, f)
	for range 2 {
		for _, kind := range []int{0, 5, 6, 7, -1, math.MaxInt, math.MinInt} {
			for _, body := range []string{"", "text", long} {
				if id, e := s.Put(kind, []byte(body)); id != "" || e != api.ErrArg {
					t.Error(kind, id, e)
				}
			}
		}
		for kind := 1; kind <= 4; kind++ {
			if id, e := s.Put(kind, []byte(long)); id != "" || e != api.ErrBig {
				t.Error(kind, id, e)
			}
		}
		same(t, f, g)
		die(f)
		die(g)
	}
	if id, e := s.Put(api.KBlob, []byte("text")); id != "" || e != api.ErrDead {
		t.Error(id, e)
	}
}

func TestHas(t *testing.T) {
	f := disk(t)
	stores(t, f, api.KBlob, "alone")
	one := packs(t, f, blob("one"), blob("both"))
	two := packs(t, f, blob("two"), blob("both"), ofs(len(blob("both")), "both", "by a delta"))
	put(t, f, loose.Path(id1), "no object") // but a file
	has := func(want bool, ids ...string) {
		t.Helper()
		for _, id := range ids {
			if got := on(t, f).Has(id); got != want {
				t.Errorf("%q: %v", id, got)
			}
		}
		agrees(t, f, ids...)
	}
	has(true, blobID("alone"), blobID("one"), blobID("two"), blobID("both"), blobID("by a delta"), id1)
	has(false, append(notHashes(), id2, modelID(api.KTag, "one"), blobID(""), one, two)...)
	put(t, f, packName(one), "no pack") // which its index knows nothing of
	has(true, blobID("one"))
	index, _ := f.Read(indexName(one))
	for at := 0; at < len(index); at += 1 + at%61 {
		c := bytes.Clone(index)
		c[at] ^= 1
		put(t, f, indexName(one), string(c))
		has(false, blobID("one"))
		has(true, blobID("both"), blobID("two"))
	}
	put(t, f, indexName(one), string(index))
	f.Remove(packName(one))
	has(false, blobID("one"))
	f.Remove(indexName(two))
	has(false, blobID("both"), blobID("two"))
	die(f)
	has(false, blobID("alone"), id1)
}

func TestGet(t *testing.T) {
	f := disk(t)
	doesNotGet(t, f, id1, api.ErrNone)
	for kind := 1; kind <= 4; kind++ {
		stores(t, f, kind, "alone")
		stores(t, f, kind, "")
	}
	a, b, c := lines(1, 60), lines(2, 60), lines(3, 60)
	to := ofs(len(blob(a)), a, b)
	packs(t, f, blob(a), to, ofs(len(to), b, c), plain(api.KTree, ""), plain(api.KTag, "a tag"), plain(api.KCommit, "c"))
	packs(t, f, ref(lines(4, 60), lines(5, 60)), blob(lines(4, 60)))
	for kind := 1; kind <= 4; kind++ {
		gets(t, f, kind, "alone")
		gets(t, f, kind, "")
	}
	for i := range 5 {
		gets(t, f, api.KBlob, lines(i+1, 60))
	}
	gets(t, f, api.KTag, "a tag")
	gets(t, f, api.KCommit, "c")
	for _, id := range notHashes() {
		doesNotGet(t, f, id, api.ErrArg)
	}
	doesNotGet(t, f, id1, api.ErrNone)
	doesNotGet(t, f, modelID(api.KTag, a), api.ErrNone)
	agrees(t, f, id1)
	die(f)
	doesNotGet(t, f, "q", api.ErrArg)
	doesNotGet(t, f, id1, api.ErrDead)
	doesNotGet(t, f, blobID(a), api.ErrDead)
	doesNotGet(t, f, blobID("alone"), api.ErrDead)
}

// The file of an object goes ahead of all packs, also when there is something wrong with it.
func TestGetOfTheFile(t *testing.T) {
	f := disk(t)
	id := stores(t, f, api.KBlob, "text")
	p := packs(t, f, blob("text"))
	put(t, f, packName(p), "no pack")
	gets(t, f, api.KBlob, "text")
	put(t, f, indexName(p), "no index")
	gets(t, f, api.KBlob, "text")
	packs(t, f, blob("text"))
	gets(t, f, api.KBlob, "text")
	for text, want := range map[string]api.Errno{
		"":          api.ErrTorn,
		"no object": api.ErrForm,
		string(loose.File(api.KBlob, []byte("another"))): api.ErrSum,
		zip("blob 9\x00text"):                            api.ErrForm,
	} {
		put(t, f, loose.Path(id), text)
		doesNotGet(t, f, id, want)
	}
	f.Remove(loose.Path(id))
	gets(t, f, api.KBlob, "text")
}

// twoPacks tells the ids of two packs that have the text, in order.
func twoPacks(t *testing.T, f *fs.FS, text string) []string {
	t.Helper()
	packs(t, f, blob(text), blob("a"))
	packs(t, f, blob("b"), blob(text), blob("c"))
	return on(t, f).Packs()
}

// Of several packs the first decides, and the others aren't looked at.
func TestGetOfTheFirstPack(t *testing.T) {
	for text := range 8 { // so that now one and now the other is the first
		f := disk(t)
		body := fmt.Sprint("text", text)
		p := twoPacks(t, f, body)
		gets(t, f, api.KBlob, body)
		put(t, f, packName(p[1]), "no pack")
		gets(t, f, api.KBlob, body)
		put(t, f, packName(p[0]), "PAC")
		doesNotGet(t, f, blobID(body), api.ErrTorn)
		f = disk(t)
		p = twoPacks(t, f, body)
		put(t, f, packName(p[0]), "")
		doesNotGet(t, f, blobID(body), api.ErrTorn)
		f.Remove(indexName(p[0]))
		gets(t, f, api.KBlob, body)
		agrees(t, f)
	}
}

// A pack whose index can't be read hides no object of another one, as Has has it; of what is nowhere else its error is told.
func TestGetByWrongIndexes(t *testing.T) {
	for text := range 8 {
		f := disk(t)
		body := fmt.Sprint("text", text)
		p := twoPacks(t, f, body)
		put(t, f, indexName(p[0]), "short")
		gets(t, f, api.KBlob, body)
		for _, id := range []string{id1, blobID("d")} {
			doesNotGet(t, f, id, api.ErrTorn)
		}
		put(t, f, indexName(p[1]), strings.Repeat("x", 1072))
		for _, id := range []string{id1, blobID(body), blobID("a"), blobID("b"), blobID("c")} {
			doesNotGet(t, f, id, api.ErrTorn)
		}
		put(t, f, indexName(p[0]), strings.Repeat("x", 1072))
		doesNotGet(t, f, blobID(body), api.ErrForm)
		put(t, f, indexName(p[0]), string(summed(strings.Repeat("\x00", 1052))))
		doesNotGet(t, f, blobID(body), api.ErrForm)
		for _, id := range notHashes() {
			doesNotGet(t, f, id, api.ErrArg)
		}
		agrees(t, f, id1, blobID(body))
	}
}

// indexed makes the files of a pack with an index of these objects, whatever it has.
func indexed(t *testing.T, f *fs.FS, id, b string, l ...api.Object) {
	t.Helper()
	index, e := idx.Build(l, id)
	if e != api.OK {
		t.Fatal(e)
	}
	put(t, f, packName(id), b)
	put(t, f, indexName(id), string(index))
}

func TestGetHasTheErrorsOfThePack(t *testing.T) {
	at12 := api.Object{ID: blobID("text"), At: 12}
	good := packed(blob("text"))
	base := lines(1, 60)
	for i, x := range []struct {
		b    string
		want api.Errno
	}{
		{good, api.OK},
		{good[:20], api.ErrTorn},
		{"", api.ErrTorn},
		{"pack" + good[4:], api.ErrForm},
		{good + "x", api.ErrForm},
		{good[:len(good)-1] + "x", api.ErrSum},
		{packed(blob(strings.Repeat("x", 65537)), blob("text")), api.ErrBig},
		{packed(blob("text"), blob(strings.Repeat("x", 65537))), api.ErrBig},
		{packed(blob("text"), ref("elsewhere", "x")), api.ErrNone},
		{packed(blob("text"), ref(base, lines(2, 60))), api.ErrNone}, // the store has the base, but that isn't asked
		{packed(blob("text"), ofs(5, "text", "x")), api.ErrForm},
		{packed(blob("text"), ofs(len(blob("text")), "other text", "x")), api.ErrForm},
		{packed(blob("other")), api.ErrSum},
		{packed(plain(api.KTag, "text")), api.ErrSum},
		{packed(blob("other"), blob("text")), api.ErrSum}, // it is there, but not where it should be
		{packed(), api.ErrSum},
	} {
		f := disk(t)
		stores(t, f, api.KBlob, base)
		indexed(t, f, id1, x.b, at12)
		if x.want == api.OK {
			gets(t, f, api.KBlob, "text")
		} else {
			doesNotGet(t, f, at12.ID, x.want)
		}
		if !on(t, f).Has(at12.ID) {
			t.Error(i)
		}
		gets(t, f, api.KBlob, base)
		agrees(t, f, at12.ID)
	}
	for _, at := range []int{0, 1, 11, 13, 12 + len(blob("text")), 1 << 40} {
		f := disk(t)
		indexed(t, f, id1, good, api.Object{ID: blobID("text"), At: at})
		doesNotGet(t, f, blobID("text"), api.ErrSum)
	}
	f := disk(t)
	l := []api.Object{{ID: blobID("a"), At: 12 + len(blob("a"))}, {ID: blobID("b"), At: 12}}
	indexed(t, f, id1, packed(blob("a"), blob("b")), l...)
	doesNotGet(t, f, blobID("a"), api.ErrSum)
	doesNotGet(t, f, blobID("b"), api.ErrSum)
}

func TestIDs(t *testing.T) {
	f := disk(t)
	ids := func(want ...string) {
		t.Helper()
		slices.Sort(want)
		if got := on(t, f).IDs(); !slices.Equal(got, want) {
			t.Errorf("%q, not %q", got, want)
		}
		agrees(t, f)
	}
	ids()
	stores(t, f, api.KBlob, "a")
	stores(t, f, api.KTag, "a")
	put(t, f, loose.Path(id2), "")
	ids(blobID("a"), modelID(api.KTag, "a"), id2)
	p := packs(t, f, blob("a"), blob("b"), blob("c"), plain(api.KTree, ""))
	put(t, f, packName(p), "no pack")
	packs(t, f, blob("c"), blob("d"), ofs(len(blob("d")), "d", "e"))
	all := []string{blobID("a"), blobID("b"), blobID("c"), blobID("d"), blobID("e"), modelID(api.KTag, "a"), modelID(api.KTree, ""), id2}
	ids(all...)
	put(t, f, packName(id1), "")
	put(t, f, indexName(id1), "no index")
	indexed(t, f, id2, "", api.Object{ID: id1, At: 5})
	ids(append(all, id1)...)
	f.Remove(indexName(p))
	ids(blobID("a"), blobID("c"), blobID("d"), blobID("e"), modelID(api.KTag, "a"), id2, id1)
	die(f)
	ids()
}

func TestExample(t *testing.T) {
	f := disk(t)
	s := on(t, f)
	id, e := s.Put(api.KBlob, []byte("a"))
	if e != api.OK || id != blobID("a") || s.Repack() != api.OK || len(s.Packs()) != 1 || len(f.List("")) != 2 {
		t.Error(id, e, f.List(""))
	}
	gets(t, f, api.KBlob, "a")
}

// A Store sees the files as they are, whoever changes them.
func TestNothingIsKept(t *testing.T) {
	f := disk(t)
	s := on(t, f)
	p := packs(t, f, blob("a"), blob("b"))
	for range 3 {
		files := listing(f)
		if _, b, e := s.Get(blobID("b")); e != api.OK || string(b) != "b" || !s.Has(blobID("b")) || len(s.IDs()) != 2 {
			t.Error(e)
		}
		put(t, f, packName(p), "")
		if _, _, e := s.Get(blobID("b")); e != api.ErrTorn || s.Check() != api.ErrTorn {
			t.Error(e)
		}
		f.Remove(indexName(p))
		if _, _, e := s.Get(blobID("b")); e != api.ErrNone || s.Has(blobID("b")) || len(s.Packs()) > 0 || s.Check() != api.OK {
			t.Error(e)
		}
		for i := 0; i < len(files); i += 2 {
			put(t, f, files[i], files[i+1])
		}
	}
}

// 13.5

func spare(s string) []byte {
	return append(append(make([]byte, 0, len(s)+60), s...), "what is behind"...)[:len(s)]
}

func spoil(b []byte) {
	b = b[:cap(b)]
	for i := range b {
		b[i] ^= 0xa5
	}
}

func TestMemory(t *testing.T) {
	f := disk(t)
	s := on(t, f)
	a, b := lines(1, 60), lines(2, 60)
	thin := packed(ref(a, b), blob("c"), blob("d"))
	for i, x := range []struct {
		text string
		call func(b []byte)
	}{
		{a, func(b []byte) { s.Put(api.KBlob, b) }},
		{a, func(b []byte) { s.Put(api.KBlob, b) }},
		{a, func(b []byte) { s.Put(9, b) }},
		{thin, func(b []byte) {
			l, e := s.Intake(b)
			if e != api.OK || len(l) != 3 {
				t.Fatal(l, e)
			}
			clear(l[:cap(l)])
		}},
		{thin[:50], func(b []byte) { s.Intake(b) }},
	} {
		b := spare(x.text)
		was := bytes.Clone(b[:cap(b)])
		x.call(b)
		if !bytes.Equal(b[:cap(b)], was) {
			t.Error(i, "changed")
		}
		spoil(b)
	}
	for range 2 {
		for _, body := range []string{a, b, "c", "d"} {
			for range 2 {
				_, got, e := s.Get(blobID(body))
				if string(got) != body || e != api.OK {
					t.Errorf("%.20q: %.20q, %v", body, got, e)
				}
				spoil(got)
			}
		}
		for _, l := range []func() []string{s.IDs, s.Packs} {
			was := slices.Clone(l())
			x := l()
			clear(x[:cap(x)])
			if got := l(); !slices.Equal(got, was) || len(got) == 0 {
				t.Errorf("%q, not %q", got, was)
			}
		}
		if e := s.Check(); e != api.OK {
			t.Error(e)
		}
		s.Repack()
	}
}

// Whatever the files have, every call ends, and what is told has its ID (W4, W9).
func TestHostileFiles(t *testing.T) {
	t.Parallel()
	f := disk(t)
	a, b := lines(1, 9), lines(2, 9)
	stores(t, f, api.KBlob, a)
	packs(t, f, blob(a), ofs(len(blob(a)), a, b), ref(b, a+"x"), plain(api.KTree, ""))
	packs(t, f, blob("c"), plain(api.KTag, "d"))
	ids := on(t, f).IDs()
	rnd := rand.New(rand.NewSource(135))
	for _, name := range f.List("") {
		text, _ := f.Read(name)
		for _, at := range rnd.Perm(len(text))[:min(len(text), 20)] {
			for _, changed := range []string{
				string(text[:at]) + string([]byte{text[at] ^ 1<<rnd.Intn(8)}) + string(text[at+1:]),
				string(text[:at]),
				string(text[:at]) + noise(rnd, 1) + string(text[at:]),
				summed(string(text[:len(text)/2]) + noise(rnd, 1) + string(text[len(text)/2+1:max(len(text)-20, len(text)/2+1)])),
			} {
				c := f.Copy()
				put(t, c, name, changed)
				agrees(t, c, ids...)
				s := on(t, c)
				for _, id := range ids {
					if kind, b, e := s.Get(id); e == api.OK && modelID(kind, string(b)) != id {
						t.Errorf("%s: %d, %.20q", id, kind, b)
					}
				}
				s.Intake([]byte(changed))
				s.Put(api.KBlob, []byte(changed))
				s.Repack()
			}
		}
	}
}

func TestNothingPanics(t *testing.T) {
	f := disk(t)
	texts := append(notHashes(), "PACK", "PACK\x00\x00\x00\x02", "\xfftOc\x00\x00\x00\x02", packed(), strings.Repeat("\xff", 2000), strings.Repeat("\x00", 2000), packed(blob("x")), packed(ref("x", "y")))
	for _, text := range texts {
		for _, name := range []string{text, "objects/" + text, "objects/pack/" + text, packName(text), indexName(text), packName(id1), indexName(id2), loose.Path(id1)} {
			if f.Create(name) == api.OK {
				f.Append(name, []byte(text))
			}
			s := on(t, f)
			s.Check()
			s.IDs()
			s.Get(text)
			s.Has(text)
			s.Intake([]byte(text))
			s.Put(len(text), []byte(text))
		}
		on(t, f).Repack()
	}
	var l []pack.Raw
	if _, e := on(t, f).Intake(nil); e != api.ErrTorn || l != nil {
		t.Error(e)
	}
}
