package idx_test

import (
	"bytes"
	"encoding/binary"
	"encoding/hex"
	"math"
	"math/rand"
	"reflect"
	"slices"
	"strings"
	"testing"

	"stemma/api"
	"stemma/idx"
)

// builds holds a Build to be the model's, and tells it.
func builds(t *testing.T, l []api.Object, pack string) []byte {
	t.Helper()
	b, e := idx.Build(l, pack)
	if want := modelBuild(l, pack); e != api.OK || !bytes.Equal(b, want) {
		t.Fatalf("%d objects: %v, %x; not %x", len(l), e, b, want)
	}
	return b
}

func notBuilt(t *testing.T, l []api.Object, pack string) {
	t.Helper()
	if b, e := idx.Build(l, pack); len(b) > 0 || e != api.ErrArg {
		t.Errorf("%d objects, %q: %d bytes, %v", len(l), pack, len(b), e)
	}
}

// parses holds a Parse to have no error, and to be the model's.
func parses(t *testing.T, b []byte) []api.Object {
	t.Helper()
	l, pack, e := idx.Parse(b)
	want, wantPack, wantE := modelParse(b)
	if e != api.OK || wantE != api.OK || pack != wantPack || !slices.EqualFunc(l, want, same) {
		t.Fatalf("%x: %v, %q, %v; not %v, %q, %v", b, l, pack, e, want, wantPack, wantE)
	}
	return l
}

func same(a, b api.Object) bool {
	return reflect.DeepEqual(a, b)
}

func isRefused(t *testing.T, b []byte, want api.Errno) {
	t.Helper()
	if l, pack, e := idx.Parse(b); len(l) > 0 || pack != "" || e != want {
		t.Errorf("%x (%d bytes): %v, %q, %v; not %v", b, len(b), l, pack, e, want)
	}
}

// agrees holds Parse and Find to be the model's, and tells the error.
func agrees(t *testing.T, b []byte, ids ...string) api.Errno {
	t.Helper()
	_, _, e := modelParse(b)
	if e == api.OK {
		parses(t, b)
	} else {
		isRefused(t, b, e)
	}
	for _, id := range ids {
		at, ok := idx.Find(b, id)
		if wantAt, want := modelFind(b, id); at != wantAt || ok != want {
			t.Errorf("%x: %s: %d, %v; not %d, %v", b, id, at, ok, wantAt, want)
		}
	}
	return e
}

// malformed holds wrong parts to be refused, with the digest that they have and with none that is right, also by Find.
func malformed(t *testing.T, p parts) {
	t.Helper()
	b := p.bytes()
	isRefused(t, b, api.ErrForm)
	for _, id := range p.ids {
		if at, ok := idx.Find(b, id); at != 0 || ok {
			t.Error(id, at)
		}
	}
	b[len(b)-1] ^= 1
	isRefused(t, b, api.ErrForm) // ahead of ErrSum
}

func sorted(l []api.Object) []api.Object {
	l = slices.Clone(l)
	slices.SortFunc(l, func(a, b api.Object) int { return strings.Compare(a.ID, b.ID) })
	return l
}

func idsOf(l []api.Object) []string {
	var ids []string
	for _, o := range l {
		ids = append(ids, o.ID)
	}
	return ids
}

// 12.1

func TestBuildOfNone(t *testing.T) {
	b := builds(t, nil, packID)
	if len(b) != 1072 || string(b[:1032]) != "\xfftOc\x00\x00\x00\x02"+strings.Repeat("\x00", 1024) || hex.EncodeToString(b[1032:1052]) != packID {
		t.Errorf("%x", b)
	}
	if again := builds(t, []api.Object{}, packID); !bytes.Equal(again, b) {
		t.Errorf("%x", again)
	}
}

// Every byte of a small index is written out.
func TestBuildByHand(t *testing.T) {
	l := []api.Object{
		{ID: "02ffffffffffffffffffffffffffffffffffffff", CRC: 0xa1b2c3d4, At: 0x7fffffff},
		{ID: "0100000000000000000000000000000000000002", CRC: 0x00000001, At: 0x1122334455667788},
		{ID: "fe0102030405060708090a0b0c0d0e0f10111213", CRC: 0xffffffff, At: 0x80000000},
		{ID: "0100000000000000000000000000000000000001", CRC: 0x10203040, At: 0x0c},
	}
	want := "ff744f6300000002" +
		"00000000" + "00000002" + strings.Repeat("00000003", 252) + "00000004" + "00000004" +
		l[3].ID + l[1].ID + l[0].ID + l[2].ID +
		"10203040" + "00000001" + "a1b2c3d4" + "ffffffff" +
		"0000000c" + "80000000" + "7fffffff" + "80000001" +
		"1122334455667788" + "0000000080000000" +
		packID
	if got := hex.EncodeToString(builds(t, l, packID)); got[:len(got)-40] != want {
		t.Errorf("%s; not %s", got, want)
	}
}

// What Git 2.39.5 writes of the pack that has these objects: its digest is one of all that stands before.
func TestIndexOfGit(t *testing.T) {
	l := []api.Object{
		{At: 12, ID: "25571f0f03fa991c072160abafb941738c3faa87", CRC: 0x767f55b1},
		{At: 158, ID: "fff3ede0ed927af5c833d242b50350825f25d7bc", CRC: 0x51435974},
		{At: 280, ID: "29285304dfd41fd4df32735d574a16a91f0a8a39", CRC: 0x3d88cabd},
		{At: 396, ID: "8477bbd362842743c4040ad87452d9e5939efc73", CRC: 0x8362137e},
		{At: 469, ID: "c884b62979bce4dd7f98f4fa4e7fa4dedb022169", CRC: 0x947ea9e9},
		{At: 542, ID: "5626abf0f72e58d7a153368ba57db4c673c0e171", CRC: 0x32ad21d5},
		{At: 555, ID: "afcd1e52ec503fae4031a5f0d6213d166927473f", CRC: 0x9e542302},
		{At: 714, ID: "6a503bd9f26586718038baa80772ebd7898702c1", CRC: 0x3a177a23},
	}
	id := "b1852ef2e431df768d21adf9c58e5c0d54ad9332"
	b := builds(t, l, id)
	if got := hex.EncodeToString(b[len(b)-20:]); len(b) != 1296 || got != "87152b18048ad1b92b11f9323049a97cb3bf17b3" {
		t.Error(len(b), got)
	}
	// Told to, Git writes offsets above 400 as far ones, which are none here.
	p := modelParts(l, id)
	for i, at := range p.offsets {
		if at > 400 {
			p.offsets[i] = 1<<31 + uint32(len(p.fars))
			p.fars = append(p.fars, uint64(at))
		}
	}
	b = p.bytes()
	if got := hex.EncodeToString(b[len(b)-20:]); got != "9b3474be5ef3dc5bfa4263a2f0db6003ff10354f" {
		t.Error(got)
	}
	malformed(t, p)
}

func TestBuild(t *testing.T) {
	rnd := rand.New(rand.NewSource(1211))
	b := builds(t, sample(), packID)
	for range 20 {
		l := sample()
		rnd.Shuffle(len(l), func(i, j int) { l[i], l[j] = l[j], l[i] })
		if again := builds(t, l, packID); !bytes.Equal(again, b) {
			t.Errorf("%x", again)
		}
	}
	for n := range 40 {
		for _, firsts := range []int{1, 2, 16, 256} {
			builds(t, many(rnd, n, firsts), id(n, firsts))
		}
	}
	for first := range 256 {
		builds(t, []api.Object{{ID: id(first, 1), At: first}}, packID)
	}
	for _, pack := range []string{strings.Repeat("0", 40), strings.Repeat("f", 40)} {
		builds(t, sample(), pack)
	}
}

func TestOffsets(t *testing.T) {
	for _, at := range []int{0, 1, 12, 255, 256, 65535, 65536, 1<<31 - 2, 1<<31 - 1} {
		b := builds(t, []api.Object{{ID: id(5, 5), At: at}}, packID)
		if len(b) != 1072+28 || binary.BigEndian.Uint32(b[1056:]) != uint32(at) {
			t.Errorf("%d: %x", at, b)
		}
	}
	for _, at := range []int{1 << 31, 1<<31 + 1, 1<<32 - 1, 1 << 32, 1<<32 + 5, 1 << 61, 1<<62 - 1, 1 << 62} {
		b := builds(t, []api.Object{{ID: id(5, 5), At: at}}, packID)
		if len(b) != 1072+36 || string(b[1056:1060]) != "\x80\x00\x00\x00" || binary.BigEndian.Uint64(b[1060:]) != uint64(at) {
			t.Errorf("%d: %x", at, b)
		}
	}
	for _, at := range []int{-1, -2, -1 << 31, -1 << 32, math.MinInt, math.MinInt + 12, 1<<62 + 1, 1<<62 + 2, math.MaxInt} {
		for i := range 3 {
			l := sample()[:3]
			l[i].At = at
			notBuilt(t, l, packID)
		}
	}
}

// wrongIDs are no Hashes.
func wrongIDs() []string {
	ids := []string{"", "0", "x", packID[:39], packID + "0", packID + packID, strings.ToUpper(packID), packID[:38], packID[:20], " " + packID[1:], packID[:39] + "\n", packID + "\n", strings.Repeat("\x00", 40), strings.Repeat("\x00", 20), strings.Repeat("é", 20)}
	for _, x := range []byte("/:@AFG`g-+x\x00\xff") {
		for _, at := range []int{0, 1, 20, 39} {
			ids = append(ids, packID[:at]+string([]byte{x})+packID[at+1:])
		}
	}
	return ids
}

func TestWrongIDs(t *testing.T) {
	for _, wrong := range wrongIDs() {
		notBuilt(t, nil, wrong)
		notBuilt(t, sample(), wrong)
		for i := range sample() {
			l := sample()
			l[i].ID = wrong
			notBuilt(t, l, packID)
		}
	}
}

func TestTwice(t *testing.T) {
	for i := range sample() {
		for j := range sample() {
			if i == j {
				continue
			}
			l := sample()
			l[i].ID = l[j].ID
			notBuilt(t, l, packID)
			l[i] = l[j]
			notBuilt(t, l, packID)
		}
		notBuilt(t, append(sample(), sample()[i]), packID)
	}
	// What lies at one place, or is the pack's own id, may be there.
	builds(t, []api.Object{{ID: id(1, 1), At: 12}, {ID: id(1, 2), At: 12}, {ID: packID, At: 12}}, packID)
}

func TestMaxObjects(t *testing.T) {
	rnd := rand.New(rand.NewSource(1212))
	for _, firsts := range []int{1, 256} {
		l := many(rnd, 4097, firsts)
		b := builds(t, l[:4096], packID)
		parses(t, b)
		for i := 0; i < 4096; i += 15 {
			if at, ok := idx.Find(b, l[i].ID); at != l[i].At || !ok {
				t.Error(l[i], at, ok)
			}
		}
		notBuilt(t, l, packID)
		great := modelBuild(l, packID)
		isRefused(t, great, api.ErrForm)
		for _, b := range [][]byte{b, great} { // not there, and not accepted
			if at, ok := idx.Find(b, l[4096].ID); at != 0 || ok {
				t.Error(at)
			}
		}
	}
	notBuilt(t, make([]api.Object, 5000), packID)
}

// 12.2

func TestParse(t *testing.T) {
	b := modelBuild(sample(), packID)
	l, pack, e := idx.Parse(b)
	if e != api.OK || pack != packID || !slices.EqualFunc(l, sorted(sample()), same) {
		t.Error(l, pack, e)
	}
	if l := parses(t, modelBuild(nil, packID)); len(l) != 0 {
		t.Error(l)
	}
}

func TestTorn(t *testing.T) {
	none := modelBuild(nil, packID)
	some := modelBuild(sample(), packID)
	for n := range 1072 {
		for _, b := range [][]byte{none, some, make([]byte, 1072), bytes.Repeat([]byte{0xff}, 1072)} {
			isRefused(t, b[:n], api.ErrTorn)
		}
		if n >= 20 {
			isRefused(t, resealed(none[:n]), api.ErrTorn)
		}
	}
	isRefused(t, nil, api.ErrTorn)
	isRefused(t, make([]byte, 1072), api.ErrForm)
	isRefused(t, some[:1072], api.ErrForm)
}

// One byte too few or too many is one that the index doesn't require.
func TestLength(t *testing.T) {
	for _, l := range [][]api.Object{nil, sample()[:1], sample()[1:2], sample()} {
		b := modelBuild(l, packID)
		for n := 1072; n < len(b); n++ {
			isRefused(t, b[:n], api.ErrForm)
			isRefused(t, resealed(b[:n]), api.ErrForm)
		}
		for n := 1; n < 50; n++ {
			longer := append(slices.Clone(b), make([]byte, n)...)
			isRefused(t, longer, api.ErrForm)
			isRefused(t, resealed(longer), api.ErrForm)
			isRefused(t, sealed(slices.Insert(slices.Clone(b[:len(b)-20]), len(b)-40, make([]byte, n)...)), api.ErrForm)
		}
		isRefused(t, append(slices.Clone(b), b...), api.ErrForm)
	}
}

func TestHead(t *testing.T) {
	b := modelBuild(sample(), packID)
	for at := range 8 {
		for x := range 256 {
			if byte(x) != b[at] {
				wrong := slices.Clone(b)
				wrong[at] = byte(x)
				isRefused(t, wrong, api.ErrForm)
				isRefused(t, resealed(wrong), api.ErrForm)
			}
		}
	}
	for _, head := range []string{"\xfftOc\x00\x00\x00\x01", "\xfftOc\x00\x00\x00\x03", "\xfftOc\x02\x00\x00\x00", "PACK\x00\x00\x00\x02", "cOt\xff\x00\x00\x00\x02"} {
		p := modelParts(sample(), packID)
		p.head = head
		malformed(t, p)
	}
}

func TestCounts(t *testing.T) {
	for first := range 256 {
		for _, d := range []uint32{1, 2, 10, 1 << 8, 1 << 12, 1 << 16, 1 << 24, 1 << 31} {
			for _, d := range []uint32{d, -d} {
				p := modelParts(sample(), packID)
				p.counts[first] += d
				malformed(t, p)
			}
		}
	}
	// All of them wrong, from one on.
	for first := range 256 {
		for _, d := range []uint32{1, 1<<32 - 1} {
			p := modelParts(sample(), packID)
			for i := first; i < 256; i++ {
				p.counts[i] += d
			}
			malformed(t, p)
		}
	}
	for _, n := range []uint32{1, 4096, 4097, 1 << 16, 1<<32 - 1, 1 << 31, 153391690, 613566757} { // of the last two, 28 times as many are few bytes, if 32 bits are counted
		p := modelParts(nil, packID)
		p.counts[255] = n
		malformed(t, p)
		for i := range p.counts {
			p.counts[i] = n
		}
		malformed(t, p)
	}
	for i := range 255 {
		p := modelParts(nil, packID)
		p.counts[i] = 1 // and 0 behind it
		malformed(t, p)
	}
}

// The IDs of a first byte stand where the counts say.
func TestIDs(t *testing.T) {
	n := len(sample())
	for i := range n {
		for j := range n {
			if i == j {
				continue
			}
			p := modelParts(sample(), packID)
			p.ids[i] = p.ids[j]
			malformed(t, p)
			p = modelParts(sample(), packID)
			p.ids[i], p.ids[j] = p.ids[j], p.ids[i]
			malformed(t, p)
		}
	}
	for i := range n {
		p := modelParts(sample(), packID)
		first := int(digits(p.ids[i])[0])
		for _, other := range []int{first - 1, first + 1} {
			if other >= 0 && other < 256 {
				p.ids[i] = id(other, i)
				malformed(t, p)
			}
		}
	}
	// Ascending, but each with another first byte than its own.
	p := modelParts([]api.Object{{ID: id(3, 1)}, {ID: id(4, 1)}, {ID: id(9, 1)}}, packID)
	p.ids = []string{id(4, 0), id(5, 1), id(10, 1)}
	malformed(t, p)
	// Falling only in the last byte.
	p = modelParts([]api.Object{{ID: id(3, 1)}, {ID: id(3, 2)}, {ID: id(3, 3)}}, packID)
	p.ids = []string{id(3, 1), id(3, 3), id(3, 2)}
	malformed(t, p)
	p.ids = []string{id(3, 2), id(3, 2), id(3, 3)}
	malformed(t, p)
}

// fars are three far objects, between near ones.
func fars() []api.Object {
	return []api.Object{{ID: id(1, 1), At: 100}, {ID: id(2, 1), At: 5 << 31}, {ID: id(2, 2), At: 1 << 31}, {ID: id(3, 1), At: 200}, {ID: id(4, 1), At: 1 << 40}}
}

func TestFars(t *testing.T) {
	parses(t, modelParts(fars(), packID).bytes())
	// Of the places 0, 1 and 2, in this order, all others are wrong.
	places := []uint32{0, 1, 2, 3, 4, 1 << 16, 1<<31 - 1}
	for _, a := range places {
		for _, b := range places {
			for _, c := range places {
				p := modelParts(fars(), packID)
				p.offsets[1], p.offsets[2], p.offsets[4] = 1<<31+a, 1<<31+b, 1<<31+c
				if a != 0 || b != 1 || c != 2 {
					malformed(t, p)
				}
			}
		}
	}
	for _, i := range []int{1, 2, 4} { // not used
		p := modelParts(fars(), packID)
		p.offsets[i] = 300
		malformed(t, p)
	}
	for _, i := range []int{0, 3} { // used by one more
		for _, place := range places {
			p := modelParts(fars(), packID)
			p.offsets[i] = 1<<31 + place
			malformed(t, p)
		}
	}
	for n := range 3 { // not there
		p := modelParts(fars(), packID)
		p.fars = p.fars[:n]
		malformed(t, p)
	}
	for n := 1; n < 4; n++ {
		p := modelParts(fars(), packID)
		p.fars = append(p.fars, slices.Repeat([]uint64{1 << 33}, n)...)
		malformed(t, p)
	}
	p := modelParts(fars()[:1], packID)
	p.fars = []uint64{1 << 33}
	malformed(t, p)
}

func TestBoundsOfFars(t *testing.T) {
	for i := range 3 {
		for _, at := range []uint64{0, 1, 12, 100, 1<<31 - 2, 1<<31 - 1, 1<<62 + 1, 1<<62 + 2, 1<<62 + 1<<31, 1<<63 - 1, 1 << 63, 1<<63 + 1<<31, 1<<63 + 1<<62, math.MaxUint64} {
			p := modelParts(fars(), packID)
			p.fars[i] = at
			malformed(t, p)
		}
		for _, at := range []uint64{1 << 31, 1<<31 + 1, 1 << 32, 1<<62 - 1, 1 << 62} {
			p := modelParts(fars(), packID)
			p.fars[i] = at
			l := parses(t, p.bytes())
			if l[[]int{1, 2, 4}[i]].At != int(at) {
				t.Error(l)
			}
		}
	}
}

func TestSum(t *testing.T) {
	for _, l := range [][]api.Object{nil, sample()} {
		b := modelBuild(l, packID)
		for at := len(b) - 20; at < len(b); at++ {
			for bit := range 8 {
				wrong := slices.Clone(b)
				wrong[at] ^= 1 << bit
				isRefused(t, wrong, api.ErrSum)
				for _, o := range l {
					if at, ok := idx.Find(wrong, o.ID); at != 0 || ok {
						t.Error(at)
					}
				}
			}
		}
		for at := len(b) - 40; at < len(b)-20; at++ {
			wrong := slices.Clone(b)
			wrong[at] ^= 1
			isRefused(t, wrong, api.ErrSum)
			parses(t, resealed(wrong))
		}
	}
}

// Every byte of an index is changed.
func TestByTheModel(t *testing.T) {
	ids := append(idsOf(sample()), id(0x80, 2), packID)
	b := modelBuild(sample(), packID)
	seen := map[api.Errno]int{}
	for at := range b {
		for _, x := range []byte{1, 2, 0x10, 0x40, 0x80, 0xc1, 0xff} {
			wrong := slices.Clone(b)
			wrong[at] ^= x
			seen[agrees(t, wrong, ids...)]++
			seen[agrees(t, resealed(wrong), ids...)]++
		}
	}
	if seen[api.OK] == 0 || seen[api.ErrForm] == 0 || seen[api.ErrSum] == 0 || len(seen) != 3 {
		t.Error(seen)
	}
}

func TestFind(t *testing.T) {
	rnd := rand.New(rand.NewSource(1221))
	for n := range 16 {
		for _, firsts := range []int{1, 2, 256} {
			l := many(rnd, n, firsts)
			b := modelBuild(l, packID)
			for _, o := range l {
				if at, ok := idx.Find(b, o.ID); at != o.At || !ok {
					t.Error(o, at, ok)
				}
				for i := range 40 {
					for _, x := range []byte("0179af") {
						other := o.ID[:i] + string([]byte{x}) + o.ID[i+1:]
						at, ok := idx.Find(b, other)
						there := slices.IndexFunc(l, func(o api.Object) bool { return o.ID == other })
						if ok != (there >= 0) || ok && at != l[there].At || !ok && at != 0 {
							t.Error(other, at, ok)
						}
					}
				}
			}
		}
	}
}

// The bytes that an ID may begin with are all looked up, whether there are such IDs or not.
func TestFirstBytes(t *testing.T) {
	for _, l := range [][]api.Object{nil, sample(), {{ID: id(0, 0), At: 5}}, {{ID: id(255, 1), At: 5}}, {{ID: id(0, 0), At: 5}, {ID: id(255, 1), At: 6}}} {
		b := modelBuild(l, packID)
		for first := range 256 {
			agrees(t, b, id(first, 0), id(first, 1), id(first, 2), id(first, 1)[:2]+strings.Repeat("f", 38))
		}
	}
}

func TestFindOfNoHash(t *testing.T) {
	l := []api.Object{{ID: packID, At: 5}, {ID: strings.Repeat("0", 40), At: 6}, {ID: "ab" + packID[2:], At: 7}}
	b := modelBuild(l, packID)
	for _, id := range append(wrongIDs(), "AB"+packID[2:], string(digits(packID)), "ab", "aB"+packID[2:]) {
		if at, ok := idx.Find(b, id); at != 0 || ok {
			t.Errorf("%q: %d", id, at)
		}
	}
	for _, b := range [][]byte{nil, b[:1071], b[:len(b)-1], append(slices.Clone(b), 0), make([]byte, 2000)} {
		if at, ok := idx.Find(b, packID); at != 0 || ok {
			t.Errorf("%x: %d", b, at)
		}
	}
}

// 12.3

func TestRoundTrips(t *testing.T) {
	rnd := rand.New(rand.NewSource(1231))
	for n := range 60 {
		for _, firsts := range []int{1, 4, 256} {
			l := many(rnd, n, firsts)
			b, e := idx.Build(l, packID)
			if e != api.OK {
				t.Fatal(e)
			}
			out, pack, e := idx.Parse(b)
			if e != api.OK || pack != packID || !slices.EqualFunc(out, sorted(l), same) {
				t.Error(out, pack, e)
			}
			again, e := idx.Build(out, pack)
			if e != api.OK || !bytes.Equal(again, b) {
				t.Errorf("%v, %x", e, again)
			}
		}
	}
}

// What an index does not have of an object does not come back.
func TestFields(t *testing.T) {
	l := sample()
	for i := range l {
		l[i].Kind, l[i].Body = i, []byte("text")
	}
	b, e := idx.Build(l, packID)
	if e != api.OK || !bytes.Equal(b, modelBuild(sample(), packID)) {
		t.Errorf("%x, %v", b, e)
	}
	out, _, _ := idx.Parse(b)
	if !slices.EqualFunc(out, sorted(sample()), same) {
		t.Error(out)
	}
}

// Whatever Parse accepts, Build writes again.
func TestAccepted(t *testing.T) {
	rnd := rand.New(rand.NewSource(1232))
	accepted := 0
	for range 3000 {
		b := modelBuild(many(rnd, rnd.Intn(6), 2), packID)
		for range rnd.Intn(4) {
			b[1032+rnd.Intn(len(b)-1052)] = byte(rnd.Intn(256))
		}
		b = resealed(b)
		if agrees(t, b) != api.OK {
			continue
		}
		accepted++
		l, pack, _ := idx.Parse(b)
		if again, e := idx.Build(l, pack); e != api.OK || !bytes.Equal(again, b) {
			t.Errorf("%v, %x; not %x", e, again, b)
		}
	}
	if accepted < 500 {
		t.Error(accepted)
	}
}

// 12.4

// Any bytes are an index or an error, also such as begin well.
func TestAnyBytes(t *testing.T) {
	rnd := rand.New(rand.NewSource(1241))
	for n := range 3000 {
		b := make([]byte, rnd.Intn(2000))
		rnd.Read(b)
		copy(b, "\xfftOc\x00\x00\x00\x02")
		if n%2 == 0 && len(b) >= 1052 {
			p := modelParts(many(rnd, rnd.Intn(40), 4), packID).bytes()
			copy(b, p[:1032])
			b = resealed(b)
		}
		agrees(t, b, packID, id(0, 0))
	}
}

// spare is b with room behind it that isn't empty.
func spare(b []byte) []byte {
	return append(slices.Clone(b), "behind"...)[:len(b)]
}

// fill writes over b and all room behind it.
func fill(b []byte) {
	b = b[:cap(b)]
	for i := range b {
		b[i] = 0xee
	}
}

func TestMemory(t *testing.T) {
	whole := append(sample(), api.Object{ID: "behind"})
	l := whole[:len(whole)-1]
	b, _ := idx.Build(l, packID)
	if !slices.EqualFunc(whole, append(sample(), api.Object{ID: "behind"}), same) {
		t.Error("changed", whole)
	}
	clear(whole)
	given := spare(b)
	fill(b)
	again := builds(t, sample(), packID)
	if string(given[:len(given)+6]) != string(again)+"behind" {
		t.Errorf("%x", given)
	}
	out, pack, e := idx.Parse(given)
	at, ok := idx.Find(given, id(0x80, 0))
	if string(given[:len(given)+6]) != string(again)+"behind" || e != api.OK || at != 12 || !ok {
		t.Errorf("changed: %x, %v, %d, %v", given, e, at, ok)
	}
	fill(given)
	if pack != packID || !slices.EqualFunc(out, sorted(sample()), same) {
		t.Error(out, pack)
	}
	clear(out[:cap(out)])
	parses(t, again)
}
