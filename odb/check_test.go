package odb_test

import (
	"slices"
	"strings"
	"testing"

	"stemma/api"
	"stemma/fs"
	"stemma/idx"
	"stemma/loose"
	"stemma/pack"
)

// 13.3

func checks(t *testing.T, f *fs.FS, want api.Errno) {
	t.Helper()
	if e := on(t, f).Check(); e != want {
		t.Errorf("%v, not %v", e, want)
	}
	agrees(t, f)
}

func TestCheck(t *testing.T) {
	f := disk(t)
	checks(t, f, api.OK)
	tree := modelID(api.KTree, "")
	a, b := lines(1, 60), lines(2, 60)
	stores(t, f, api.KBlob, "text")
	stores(t, f, api.KCommit, commit(tree, "refers to what isn't there"))
	packs(t, f)
	packs(t, f, blob(a), ofs(len(blob(a)), a, b), ref(b, "c"), plain(api.KTag, tag(id1, "t")))
	packs(t, f, plain(api.KTree, ""), blob(a))
	put(t, f, packName(id1), "half a pack")
	put(t, f, indexName(id2), "the other half")
	put(t, f, "objects/x", "x")
	checks(t, f, api.OK)
	die(f)
	checks(t, f, api.ErrDead)
}

func TestCheckOfFiles(t *testing.T) {
	for name, x := range map[string]struct {
		kind int
		text string // of the file, or of the object if there is a kind
		want api.Errno
	}{
		"nothing":        {0, "", api.ErrTorn},
		"no object":      {0, "no object", api.ErrForm},
		"another":        {0, string(loose.File(api.KBlob, nil)), api.ErrSum},
		"too big":        {0, string(loose.File(api.KBlob, []byte(strings.Repeat("x", 65537)))), api.ErrBig},
		"wrong checksum": {0, zip("blob 0\x00")[:len(zip("blob 0\x00"))-4] + "wxyz", api.ErrSum},
		"blob":           {api.KBlob, "x", api.OK},
		"tree":           {api.KTree, "x", api.ErrForm},
		"commit":         {api.KCommit, "x", api.ErrForm},
		"tag":            {api.KTag, "x", api.ErrForm},
	} {
		t.Run(name, func(t *testing.T) {
			f := disk(t)
			stores(t, f, api.KBlob, "text")
			packs(t, f, blob("text"))
			if x.kind == 0 {
				put(t, f, loose.Path(id1), x.text)
			} else {
				stores(t, f, x.kind, x.text)
			}
			checks(t, f, x.want)
		})
	}
}

// The first of two errors by the IDs is the one that is told, of whichever call it is.
func TestCheckOfFilesInOrder(t *testing.T) {
	f := disk(t)
	bad := modelID(api.KTree, "no tree")
	below, above := strings.Repeat("0", 40), strings.Repeat("f", 40)
	put(t, f, loose.Path(above), "")
	checks(t, f, api.ErrTorn)
	stores(t, f, api.KTree, "no tree")
	checks(t, f, api.ErrForm)
	put(t, f, loose.Path(below), string(loose.File(api.KBlob, nil)))
	checks(t, f, api.ErrSum)
	f.Remove(loose.Path(bad))
	checks(t, f, api.ErrSum)
	put(t, f, packName(id1), "")
	put(t, f, indexName(id1), "")
	checks(t, f, api.ErrSum) // ahead of the packs
	f.Remove(loose.Path(below))
	f.Remove(loose.Path(above))
	checks(t, f, api.ErrTorn)
}

func indexOf(t *testing.T, id string, l ...api.Object) string {
	t.Helper()
	b, e := idx.Build(l, id)
	if e != api.OK {
		t.Fatal(e)
	}
	return string(b)
}

// placed tells the objects of a pack, and its id.
func placed(t *testing.T, b string) ([]api.Object, string) {
	t.Helper()
	raws, id, e := pack.Read([]byte(b))
	l, e2 := pack.Resolve(raws, nil)
	if e != api.OK || e2 != api.OK {
		t.Fatal(e, e2)
	}
	return l, id
}

// changed tells the objects with one of them changed.
func changed(l []api.Object, i int, change func(o *api.Object)) []api.Object {
	l = slices.Clone(l)
	change(&l[i])
	return l
}

func TestCheckOfPacks(t *testing.T) {
	good := packed(blob("a"), blob("b"), plain(api.KTree, ""))
	l, id := placed(t, good)
	index := indexOf(t, id, l...)
	sum := func(b string) string { return b[:len(b)-1] + string([]byte{b[len(b)-1] ^ 1}) }
	alone := packed(ref("elsewhere", "x"), blob("a"))
	_, lone, _ := pack.Read([]byte(alone))
	tree := packed(blob("a"), plain(api.KTree, "no tree"))
	trees, treeID := placed(t, tree)
	for name, x := range map[string]struct {
		id, b, index string
		want         api.Errno
	}{
		"good":                        {id, good, index, api.OK},
		"no pack":                     {id, "", index, api.ErrTorn},
		"wrong pack":                  {id, "pack" + good[4:], index, api.ErrForm},
		"big pack":                    {id, packed(blob(strings.Repeat("x", 65537))), index, api.ErrBig},
		"wrong digest of the pack":    {id, sum(good), index, api.ErrSum},
		"no index":                    {id, good, "", api.ErrTorn},
		"short index":                 {id, good, index[:1072], api.ErrForm},
		"wrong digest of the index":   {id, good, sum(index), api.ErrSum},
		"pack before index":           {id, sum(good), "", api.ErrSum},
		"index before objects":        {lone, alone, sum(index), api.ErrSum},
		"objects":                     {lone, alone, index, api.ErrNone},
		"objects that fit nothing":    {lone, packed(blob("a"), ofs(len(blob("a")), "another text", "x")), index, api.ErrForm},
		"another pack's index":        {id, good, indexOf(t, treeID, trees...), api.ErrForm},
		"another id":                  {id, good, indexOf(t, id1, l...), api.ErrForm},
		"an object less":              {id, good, indexOf(t, id, l[1:]...), api.ErrForm},
		"an object more":              {id, good, indexOf(t, id, append(l, api.Object{ID: id1, At: 12})...), api.ErrForm},
		"no objects":                  {id, good, indexOf(t, id), api.ErrForm},
		"objects of none":             {"029d08823bd8a8eab510ad6ac75c823cfd3ed31e", packed(), indexOf(t, "029d08823bd8a8eab510ad6ac75c823cfd3ed31e", l...), api.ErrForm},
		"none":                        {"029d08823bd8a8eab510ad6ac75c823cfd3ed31e", packed(), indexOf(t, "029d08823bd8a8eab510ad6ac75c823cfd3ed31e"), api.OK},
		"another object":              {id, good, indexOf(t, id, changed(l, 0, func(o *api.Object) { o.ID = id1 })...), api.ErrForm},
		"another offset":              {id, good, indexOf(t, id, changed(l, 1, func(o *api.Object) { o.At++ })...), api.ErrForm},
		"another CRC":                 {id, good, indexOf(t, id, changed(l, 2, func(o *api.Object) { o.CRC ^= 1 << 31 })...), api.ErrForm},
		"no tree":                     {treeID, tree, indexOf(t, treeID, trees...), api.ErrForm},
		"an object twice":             {lone, packed(blob("a"), blob("a")), indexOf(t, lone, api.Object{ID: blobID("a"), At: 12}), api.ErrForm},
		"another name":                {id1, good, index, api.ErrForm},
		"another name, and its index": {id1, good, indexOf(t, id1, l...), api.ErrForm},
	} {
		t.Run(name, func(t *testing.T) {
			f := disk(t)
			stores(t, f, api.KBlob, "elsewhere")
			put(t, f, packName(x.id), x.b)
			put(t, f, indexName(x.id), x.index)
			checks(t, f, x.want)
		})
	}
}

// An object twice makes no index right, whichever of the two places it tells.
func TestCheckOfTwice(t *testing.T) {
	b := packed(blob("a"), blob("a"))
	l, id := placed(t, b)
	for _, o := range l {
		f := disk(t)
		put(t, f, packName(id), b)
		put(t, f, indexName(id), indexOf(t, id, o))
		gets(t, f, api.KBlob, "a")
		checks(t, f, api.ErrForm)
	}
}

// Of several packs the first by its id is the one whose error is told.
func TestCheckOfPacksInOrder(t *testing.T) {
	f := disk(t)
	for _, text := range []string{"a", "b", "c", "d"} {
		packs(t, f, blob(text))
	}
	l := on(t, f).Packs()
	put(t, f, packName(l[3]), "")
	checks(t, f, api.ErrTorn)
	put(t, f, packName(l[2]), "pack")
	checks(t, f, api.ErrForm)
	b, _ := f.Read(packName(l[1]))
	put(t, f, packName(l[1]), string(b[:len(b)-1])+"x")
	checks(t, f, api.ErrSum)
	put(t, f, indexName(l[0]), "")
	checks(t, f, api.ErrTorn)
}
