package pack_test

import (
	"encoding/hex"
	"strings"
	"testing"

	"stemma/api"
	"stemma/pack"
)

// Packs that Git made, of two commits and a tag: with a delta by its offset, with one by its base's hash (but for what is the same), and of the second commit alone, with deltas on the first one.
const (
	gitOffset = "5041434b00000002000000089b0c789c95cb410a02310c40d17d4fd1bd2069934e5b10d13be8016293aae04c875ac1e3ab4770f1e16dfee8aa36518c" +
		"978be0e413f9485808085852a4e0256bc898b5968866e5aecbb03efb141048aa90fb26157dc4202112bb89b3abc089311b7e8d5bebf668cff6f4c38e" +
		"0ffae6797de8b6f5ebde3a8f14a69832d80d380053da3cdfc7d07f1ef3d4d216311fc26b3946cd07789c15cb410ac3201040d1bda7987da1cc688c0a" +
		"a53477680f30ca685a2a0691d2dcbee9ea2f1ebfc597a401da5a4719339acc215042a769468e9c6398c8199f0e60efd4d83781d46a7d0e35b8c087fe" +
		"29d2618107dcd7d6e1c237f972ddde726ebd5c81b499ecec7c403821212a355681e3523f2e07247b9a09789c95cb4b0a42310c40d1795791b920698d" +
		"6d0322ba075d403fa93eb0f45123b87c75094e2e6772758a408991b2771c3817a15a43e3d8a82592f04d959ad139ebd9a497dec784335ce1f2c3219d" +
		"e49dfafa90ed98b72358b7a3bd0f91113668114d19bd2faaf2cf63da329f6a3e02342d01a104789c33343030333151c82fc9482d6208535bfde1bb5e" +
		"c4f585c166dd4b6bb71c2b3ef0b0d010a2a024b5a284212bc0fae6a7d4b6c2068b5d2bd88b5e5fef6c673a08005b571c0ba104789c33343030333151" +
		"c82fc9482d6208535bfde1bb5ec4f585c166dd4b6bb71c2b3ef0b0d010a2a024b5a28461fd59b9a03701f6eb1c0c977eb8a6682b96a9ee6e0f0055d6" +
		"1a4234789ccbcf4be5020003de014dbf42789c65d3390a42511045c1dc55fc25d893c3720c1404d1c4c0e58b99bc4a4f5434b71ff7e7758bed75db2e" +
		"dbfbfa79ef1ebf906ba835f41a660d87351cd7705ac3790db1a7600db08136e006de001c880372604ecce97d3127e6c49c981373624ecc89b93017e6" +
		"7214980b73612ecc85b93017e6c6dc981b73bb64cc8db93137e6c6dc9807f3601ecc83797c3fcc8379300fe6c17cf8377f011fce4d16eb01801f789c" +
		"5bcfb186630323135fa2427246625e7a6a8a424e665eea662126592600784d0826b1852ef2e431df768d21adf9c58e5c0d54ad9332"
	gitHash = "fb01afcd1e52ec503fae4031a5f0d6213d166927473f789c5bcfb186630323135fa2427246625e7a6a8a424e665eea662126592600784d082624d51f" +
		"12e7a99f29db19fb879a649088bad07c8a"
	gitThin = "5041434b00000002000000039b0c789c95cb410a02310c40d17d4fd1bd2069934e5b10d13be8016293aae04c875ac1e3ab4770f1e16dfee8aa36518c" +
		"978be0e413f9485808085852a4e0256bc898b5968866e5aecbb03efb141048aa90fb26157dc4202112bb89b3abc089311b7e8d5bebf668cff6f4c38e" +
		"0ffae6797de8b6f5ebde3a8f14a69832d80d380053da3cdfc7d07f1ef3d4d216311fc26b3946a104789c33343030333151c82fc9482d6208535bfde1" +
		"bb5ec4f585c166dd4b6bb71c2b3ef0b0d010a2a024b5a284212bc0fae6a7d4b6c2068b5d2bd88b5e5fef6c673a08005b571c0bfb01afcd1e52ec503f" +
		"ae4031a5f0d6213d166927473f789c5bcfb186630323135fa2427246625e7a6a8a424e665eea662126592600784d08260fd1e162073051f537a40613" +
		"c82e5fdbb9f2a202"
)

func bytesOf(t *testing.T, digits string) string {
	t.Helper()
	b, err := hex.DecodeString(digits)
	if err != nil {
		t.Fatal(err)
	}
	return string(b)
}

// packHash is the second pack, the last entry of which begins at 714.
func packHash(t *testing.T) string {
	t.Helper()
	return bytesOf(t, gitOffset[:2*714]+gitHash)
}

const (
	person = "A U Thor <a@example.org> 1234567890 +0100"
	oldID  = "afcd1e52ec503fae4031a5f0d6213d166927473f" // of the longer file in the first commit
)

func oldText() string {
	return lines(1, 60)
}

func newText() string {
	return lines(1, 29) + "a changed line\n" + lines(31, 60)
}

// gitObjects are the objects of the packs, as Git tells about them.
func gitObjects(t *testing.T) []api.Object {
	t.Helper()
	tree := func(id string) string {
		return "100644 other\x00" + bytesOf(t, "5626abf0f72e58d7a153368ba57db4c673c0e171") + "100644 text\x00" + bytesOf(t, id)
	}
	commit := "author " + person + "\ncommitter " + person + "\n\n"
	return []api.Object{
		{Kind: api.KCommit, At: 12, CRC: 0x767f55b1, ID: "25571f0f03fa991c072160abafb941738c3faa87", Body: []byte("tree 8477bbd362842743c4040ad87452d9e5939efc73\nparent 29285304dfd41fd4df32735d574a16a91f0a8a39\n" + commit + "second\n")},
		{Kind: api.KTag, At: 158, CRC: 0x51435974, ID: "fff3ede0ed927af5c833d242b50350825f25d7bc", Body: []byte("object 25571f0f03fa991c072160abafb941738c3faa87\ntype commit\ntag v1\ntagger " + person + "\n\nthe tag\n")},
		{Kind: api.KCommit, At: 280, CRC: 0x3d88cabd, ID: "29285304dfd41fd4df32735d574a16a91f0a8a39", Body: []byte("tree c884b62979bce4dd7f98f4fa4e7fa4dedb022169\n" + commit + "first\n")},
		{Kind: api.KTree, At: 396, CRC: 0x8362137e, ID: "8477bbd362842743c4040ad87452d9e5939efc73", Body: []byte(tree("6a503bd9f26586718038baa80772ebd7898702c1"))},
		{Kind: api.KTree, At: 469, CRC: 0x947ea9e9, ID: "c884b62979bce4dd7f98f4fa4e7fa4dedb022169", Body: []byte(tree(oldID))},
		{Kind: api.KBlob, At: 542, CRC: 0x32ad21d5, ID: "5626abf0f72e58d7a153368ba57db4c673c0e171", Body: []byte("one\n")},
		{Kind: api.KBlob, At: 555, CRC: 0x9e542302, ID: oldID, Body: []byte(oldText())},
		{Kind: api.KBlob, At: 714, CRC: 0x3a177a23, ID: "6a503bd9f26586718038baa80772ebd7898702c1", Body: []byte(newText())},
	}
}

// 11.2 and 11.3

func TestPacksOfGit(t *testing.T) {
	for name, x := range map[string]struct {
		b, id string
		last  uint32
	}{
		"offset": {bytesOf(t, gitOffset), "b1852ef2e431df768d21adf9c58e5c0d54ad9332", 0x3a177a23},
		"hash":   {packHash(t), "24d51f12e7a99f29db19fb879a649088bad07c8a", 0x2ba4b9f3},
	} {
		l, id, e := pack.Read([]byte(x.b))
		if e != api.OK || id != x.id {
			t.Fatal(name, id, e)
		}
		out, e := resolves(t, l)
		want := gitObjects(t)
		want[7].CRC = x.last
		if e != api.OK || len(out) != len(want) {
			t.Fatal(name, len(out), e)
		}
		for i, o := range out {
			if w := want[i]; o.Kind != w.Kind || o.ID != w.ID || string(o.Body) != string(w.Body) || o.At != w.At || o.CRC != w.CRC {
				t.Errorf("%s: %v; not %v", name, o, w)
			}
		}
		if r := l[7]; name == "offset" && (r.Kind != api.KOfs || r.Off != 555 || r.Base != "") || name == "hash" && (r.Kind != api.KRef || r.Base != oldID || r.Off != 0) {
			t.Error(name, r)
		}
	}
}

func TestThinPackOfGit(t *testing.T) {
	b := bytesOf(t, gitThin)
	l := reads(t, b)
	if len(l) != 3 || l[2].Kind != api.KRef || l[2].Base != oldID || l[2].At != 231 || l[2].Size != 27 {
		t.Fatal(l)
	}
	if _, e := resolves(t, l); e != api.ErrNone {
		t.Error(e)
	}
	want := gitObjects(t)
	out, e := resolves(t, l, want[6])
	if e != api.OK {
		t.Fatal(e)
	}
	for i, k := range []int{0, 3, 7} {
		if out[i].ID != want[k].ID || string(out[i].Body) != string(want[k].Body) {
			t.Error(out[i])
		}
	}
	if !strings.HasSuffix(string(out[2].Body), "line 60 of a text\n") {
		t.Errorf("%q", out[2].Body)
	}
}

// Every byte of a pack of Git's is changed, with the digest that it then has.
func TestChangedPacksOfGit(t *testing.T) {
	b := bytesOf(t, gitOffset)
	for at := range len(b) - 20 {
		for _, x := range []byte{1, 0x10, 0x80, 0xff} {
			agrees(t, summed(b[:at]+string([]byte{b[at] ^ x})+b[at+1:len(b)-20]))
		}
	}
}
