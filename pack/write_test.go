package pack_test

import (
	"bytes"
	"encoding/binary"
	"fmt"
	"math"
	"math/rand"
	"reflect"
	"slices"
	"strings"
	"testing"

	"stemma/api"
	"stemma/pack"
)

var kinds = []int{api.KCommit, api.KTag, api.KTree, api.KBlob} // in their order

// writes holds a pack to be one of l in its order, and tells it.
func writes(t *testing.T, l, thin []api.Object) string {
	t.Helper()
	b := string(pack.Write(l, thin))
	raw := reads(t, b)
	out, e := resolves(t, raw, thin...)
	want := modelOrder(l)
	if e != api.OK || len(out) != len(want) {
		t.Fatalf("%d objects, not %d; %v", len(out), len(want), e)
	}
	for i, o := range out {
		if w := want[i]; o.Kind != w.Kind || o.ID != w.ID || !bytes.Equal(o.Body, w.Body) {
			t.Errorf("%d: %d, %s, %.20q; not %d, %s, %.20q", i, o.Kind, o.ID, o.Body, w.Kind, w.ID, w.Body)
		}
	}
	named := func(id string) func(api.Object) bool { return func(o api.Object) bool { return o.ID == id } }
	for _, r := range raw {
		if r.Kind == api.KRef && (!slices.ContainsFunc(thin, named(r.Base)) || slices.ContainsFunc(l, named(r.Base))) {
			t.Errorf("based on %s", r.Base)
		}
	}
	return b
}

// count tells how many entries are of a kind.
func count(t *testing.T, b string, kind int) int {
	t.Helper()
	n := 0
	for _, r := range reads(t, b) {
		if r.Kind == kind {
			n++
		}
	}
	return n
}

func objects(kind int, bodies ...string) []api.Object {
	var l []api.Object
	for _, body := range bodies {
		l = append(l, obj(kind, body))
	}
	return l
}

// texts are of many sizes, some of them much like others.
func texts(rnd *rand.Rand) []string {
	a := noise(rnd, 3000)
	l := []string{"", "a", "ab", "abcdefg", "abcdefgh", "abcdefghi", a, a[:1000] + "changed" + a[1000:], a[500:], a[1500:] + a[:1500], a + a, lines(1, 300), lines(100, 250), lines(1, 150) + "new\n" + lines(152, 300)}
	for _, n := range []int{15, 16, 17, 2047, 2048, 65535, 65536} {
		l = append(l, few(rnd, n, 1), few(rnd, n, 3), noise(rnd, n))
	}
	return l
}

// 11.4

func TestOrder(t *testing.T) {
	id := func(i int) string { return fmt.Sprintf("%040x", i) }
	l := []api.Object{
		{Kind: 3, ID: id(1)}, {Kind: 9, ID: id(3), Body: []byte("nine")}, {Kind: 2, ID: id(4)}, {Kind: 0, ID: id(2)}, {Kind: 4, ID: id(9), At: 7, CRC: 8}, {Kind: 1, ID: id(8)}, {Kind: 1, ID: id(7), Body: []byte("first")}, {Kind: 4, ID: id(5)}, {Kind: 1, ID: id(7), Body: []byte("second")}, {Kind: 3, ID: id(0)}, {Kind: -1, ID: ""}, {Kind: 5, ID: "q"},
	}
	want := []api.Object{l[6], l[5], l[7], l[4], l[2], l[9], l[0], l[10], l[3], l[1], l[11]}
	if got := pack.Order(l); !reflect.DeepEqual(filled(got), filled(want)) {
		t.Errorf("%v", got)
	}
	if got := pack.Order(nil); len(got) != 0 {
		t.Error(got)
	}
}

func TestOrderByTheModel(t *testing.T) {
	rnd := rand.New(rand.NewSource(1141))
	for range 3000 {
		var l []api.Object
		for range rnd.Intn(20) {
			n := rnd.Intn(30)
			l = append(l, api.Object{Kind: n % 7, ID: string([]byte{byte(250 - 9*n)}), Body: []byte{byte(rnd.Intn(256))}})
		}
		before := filled(l)
		got := pack.Order(l)
		if !reflect.DeepEqual(filled(got), filled(modelOrder(l))) || !reflect.DeepEqual(filled(l), before) {
			t.Fatalf("%v: %v", l, got)
		}
		if again := pack.Order(got); !reflect.DeepEqual(again, got) {
			t.Fatalf("%v: %v", got, again)
		}
	}
}

func TestWriteOfNone(t *testing.T) {
	for _, thin := range [][]api.Object{nil, {}, objects(api.KBlob, "text")} {
		if b := pack.Write(nil, thin); string(b) != packed() {
			t.Errorf("%x", b)
		}
	}
}

func TestWrite(t *testing.T) {
	rnd := rand.New(rand.NewSource(1142))
	all := texts(rnd)
	var everything []api.Object
	for _, kind := range kinds {
		l := objects(kind, all...)
		for i := range l {
			writes(t, l[i:i+1], nil)
		}
		writes(t, append(l, l...), nil)
		everything = append(everything, l[:14]...)
	}
	writes(t, everything, nil)
	for range 40 {
		rnd.Shuffle(len(everything), func(i, j int) { everything[i], everything[j] = everything[j], everything[i] })
		n, m := rnd.Intn(len(everything)), rnd.Intn(len(everything))
		writes(t, everything[:n], everything[n:])
		writes(t, everything[:n], everything[m:])
	}
	writes(t, gitObjects(t), nil)
}

// A pack is the same, in whatever order its objects and those outside come.
func TestWriteIsOne(t *testing.T) {
	rnd := rand.New(rand.NewSource(1143))
	l := objects(api.KBlob, texts(rnd)[:14]...)
	l = append(l, objects(api.KTree, lines(1, 50), lines(2, 51), lines(30, 40))...)
	text := noise(rnd, 1000)
	for i := range 10 { // all of them as good as any other
		l = append(objects(api.KBlob, string([]byte{byte(i)})+text), l...)
	}
	want := pack.Write(l[5:], l[:9])
	for range 20 {
		one, two := slices.Clone(l[5:]), slices.Clone(l[:9])
		rnd.Shuffle(len(one), func(i, j int) { one[i], one[j] = one[j], one[i] })
		rnd.Shuffle(len(two), func(i, j int) { two[i], two[j] = two[j], two[i] })
		if b := pack.Write(append(one, one[:3]...), append(two, two[:3]...)); !bytes.Equal(b, want) {
			t.Fatal("two packs")
		}
	}
}

// What isn't what it says is left out, and never the base of anything.
func TestWrongObjects(t *testing.T) {
	text := noise(rand.New(rand.NewSource(1144)), 2000)
	good := obj(api.KBlob, text)
	changed := obj(api.KBlob, "q"+text[1:])
	lie := changed
	lie.Body = slices.Clone(good.Body)
	lie.Body[1000]++
	for name, o := range map[string]api.Object{
		"no kind":       obj(0, text),
		"no kind 5":     obj(5, text),
		"delta":         obj(api.KOfs, text),
		"delta by hash": obj(api.KRef, text),
		"negative":      obj(-1, text),
		"great":         obj(math.MaxInt, text),
		"too long":      obj(api.KBlob, strings.Repeat("z", 65537)),
		"much too long": obj(api.KTree, strings.Repeat("z", 1<<20)),
		"other kind":    {Kind: api.KTree, Body: good.Body, ID: changed.ID},
		"other body":    lie,
		"no ID":         {Kind: api.KBlob, Body: changed.Body},
		"upper case":    {Kind: api.KBlob, Body: changed.Body, ID: strings.ToUpper(changed.ID)},
	} {
		if b := pack.Write([]api.Object{o}, nil); string(b) != packed() {
			t.Errorf("%s: %d bytes", name, len(b))
		}
		want := writes(t, []api.Object{good}, nil)
		for _, b := range [][]byte{
			pack.Write([]api.Object{o, good}, nil),
			pack.Write([]api.Object{good, o}, []api.Object{o}),
			pack.Write([]api.Object{good}, []api.Object{o}),
		} {
			if string(b) != want {
				t.Errorf("%s: %d bytes", name, len(b))
			}
		}
	}
	// A wrong object doesn't take the place of a right one with its ID.
	if b := pack.Write([]api.Object{lie, changed}, nil); string(b) != writes(t, []api.Object{changed}, nil) {
		t.Error("left out")
	}
	if b := pack.Write([]api.Object{good}, []api.Object{lie, changed}); len(b) > 200 {
		t.Error(len(b))
	}
	writes(t, objects(api.KBlob, strings.Repeat("z", 65536), noise(rand.New(rand.NewSource(1145)), 65536)), nil)
}

// What is in the pack has its base there, even if it is outside too.
func TestThinObjectsInThePack(t *testing.T) {
	rnd := rand.New(rand.NewSource(1146))
	text := noise(rnd, 3000)
	l := objects(api.KBlob, text, text[:1000]+"q"+text[1001:], "q"+text)
	for n := range 4 {
		if b := writes(t, l, l[:n]); count(t, b, api.KRef) != 0 || count(t, b, api.KOfs) != 2 {
			t.Error(n, count(t, b, api.KRef), count(t, b, api.KOfs))
		}
	}
	if b := writes(t, l[:1], l); len(b) > 200 || count(t, b, api.KRef) != 1 {
		t.Error(len(b))
	}
}

// Sixteen objects that differ in their first byte take at most 6,000 bytes.
func TestAlike(t *testing.T) {
	rnd := rand.New(rand.NewSource(1147))
	for _, kind := range kinds {
		for _, text := range []string{noise(rnd, 999), few(rnd, 999, 2), few(rnd, 999, 26), few(rnd, 999, 1), lines(1, 90)[:999], strings.Repeat(noise(rnd, 37), 27)} {
			for range 5 {
				var l []api.Object
				for _, first := range rnd.Perm(256)[:16] {
					l = append(l, obj(kind, string([]byte{byte(first)})+text))
				}
				b := writes(t, l, nil)
				if len(b) > 6000 {
					t.Error(kind, len(b))
				}
				if text[:100] != text[1:101] && count(t, b, api.KOfs) < 12 && len(b) > 3000 {
					t.Error(kind, count(t, b, api.KOfs))
				}
			}
		}
	}
}

// A blob of which one like it is outside takes at most 500 bytes, wherever they differ, and whatever else is outside.
func TestThin(t *testing.T) {
	rnd := rand.New(rand.NewSource(1148))
	for _, n := range []int{1000, 1001, 1500, 3000, 4999, 5000} {
		for _, text := range []string{noise(rnd, n), few(rnd, n, 2), few(rnd, n, 26), lines(1, 999)[:n]} {
			var others []api.Object
			for range 30 {
				others = append(others, obj(api.KBlob, few(rnd, n, 2)), obj(api.KBlob, text[:n/2]+noise(rnd, n-n/2)), obj(api.KTree, text))
			}
			for _, at := range []int{0, 1, 7, 8, n / 2, n - 9, n - 8, n - 1, rnd.Intn(n), rnd.Intn(n)} {
				twin := obj(api.KBlob, text[:at]+string([]byte{text[at] ^ byte(1+rnd.Intn(255))})+text[at+1:])
				for _, thin := range [][]api.Object{{twin}, append(others, twin), append([]api.Object{twin}, others...)} {
					if b := writes(t, objects(api.KBlob, text), thin); len(b) > 150 {
						t.Errorf("%d, %d, %d: %d bytes", n, at, len(thin), len(b))
					}
				}
			}
		}
	}
}

// So it is where both consist of a few blocks again and again.
func TestThinOfFewBlocks(t *testing.T) {
	rnd := rand.New(rand.NewSource(1149))
	for _, size := range []int{3, 4, 8, 9} {
		for blocks := 2; blocks < 19; blocks += 3 {
			of := noise(rnd, size*blocks)
			text := ""
			for len(text) < 5000 {
				at := size * rnd.Intn(blocks)
				text += of[at : at+size]
			}
			text = text[:5000]
			at := rnd.Intn(5000)
			if b := writes(t, objects(api.KBlob, text), objects(api.KBlob, text[:at]+string([]byte{text[at] ^ 1})+text[at+1:])); len(b) > 150 {
				t.Errorf("%d blocks of %d: %d bytes", blocks, size, len(b))
			}
		}
	}
}

// Deltas are found where pieces were put in, left out and moved, too, and only between objects of one kind.
func TestDeltas(t *testing.T) {
	rnd := rand.New(rand.NewSource(1150))
	text := noise(rnd, 4000)
	l := []string{text, text[:2000] + "put in" + text[2000:], text[300:], text[:3000] + text[3100:], text[2000:] + text[:2000], "ahead" + text + "behind"}
	if b := writes(t, objects(api.KBlob, l...), nil); count(t, b, api.KOfs) != 5 || len(b) > 5000 {
		t.Error(count(t, b, api.KOfs), len(b))
	}
	if b := writes(t, objects(api.KBlob, l[0]), objects(api.KBlob, l[1:]...)); count(t, b, api.KRef) != 1 || len(b) > 150 {
		t.Error(count(t, b, api.KRef), len(b))
	}
	for i, kind := range kinds {
		for j, other := range kinds {
			if b := writes(t, objects(kind, l[0]), objects(other, l[1])); count(t, b, api.KRef) == 1 != (i == j) {
				t.Error(kind, other)
			}
			if b := writes(t, append(objects(kind, l[0]), objects(other, l[1])...), nil); count(t, b, api.KOfs) == 1 != (i == j) {
				t.Error(kind, other)
			}
		}
	}
}

// A delta is there only where it is shorter than the object alone.
func TestNoDeltasThatAreLonger(t *testing.T) {
	rnd := rand.New(rand.NewSource(1151))
	for _, l := range [][]string{
		{few(rnd, 65536, 1), few(rnd, 65535, 1) + "q", noise(rnd, 65536)},
		{noise(rnd, 100), noise(rnd, 100), noise(rnd, 1000)},
		texts(rnd),
	} {
		for i, text := range l {
			alone := len(writes(t, objects(api.KBlob, text), nil))
			with := len(writes(t, objects(api.KBlob, text), objects(api.KBlob, append(l[:i:i], l[i+1:]...)...)))
			if with > alone {
				t.Errorf("%d: %d bytes, not %d", i, with, alone)
			}
		}
	}
	// What has parts in common may need a delta longer than objects can be.
	part := noise(rnd, 40000)
	var woven strings.Builder
	for at := 0; woven.Len() < 65536-160; at += 8 {
		woven.WriteString(part[at%39000 : at%39000+8])
		woven.WriteString(noise(rnd, 127))
	}
	woven.WriteString(noise(rnd, 65536-woven.Len()))
	writes(t, objects(api.KBlob, woven.String()), objects(api.KBlob, part))
	writes(t, objects(api.KBlob, woven.String(), part), nil)
}

// idsAscend makes texts each of which is best based on the one before it in the pack, as far as there may be deltas on one another.
func idsAscend(rnd *rand.Rand, n int) []api.Object {
	text := noise(rnd, 200*n+2000)
	var l []api.Object
	for i := range n {
		for k := uint32(0); ; k++ {
			o := obj(api.KBlob, text[200*i:200*i+2000]+string(binary.LittleEndian.AppendUint32(nil, k)))
			if o.ID[:2] == fmt.Sprintf("%02x", i*256/n) {
				l = append(l, o)
				break
			}
		}
	}
	return l
}

func TestMaxDeepOfWrite(t *testing.T) {
	l := idsAscend(rand.New(rand.NewSource(1152)), 128)
	b := writes(t, l, nil)
	deep := map[int]int{}
	most := 0
	for _, r := range reads(t, b) {
		if r.Kind == api.KOfs {
			deep[r.At] = deep[r.Off] + 1
		}
		most = max(most, deep[r.At])
	}
	if most != api.MaxDeep || count(t, b, api.KOfs) < 120 {
		t.Error(most, count(t, b, api.KOfs))
	}
	if b := writes(t, l[1:], l[:1]); count(t, b, api.KRef) == 0 {
		t.Error("no KRef")
	}
}

func TestMaxObjectsOfWrite(t *testing.T) {
	var l []api.Object
	for i := range 4096 {
		l = append(l, obj(kinds[i%4], fmt.Sprint("a text with the number ", i)))
	}
	writes(t, l[:2048], l[2048:])
	raw, _, e := pack.Read(pack.Write(l, nil))
	out, e2 := pack.Resolve(raw, nil)
	if e != api.OK || e2 != api.OK || len(out) != 4096 {
		t.Error(e, e2, len(out))
	}
}

// The entries of a written pack are heads, ways back and data as Git has them.
func TestWrittenBytes(t *testing.T) {
	for _, kind := range kinds {
		b := writes(t, objects(kind, "text"), nil)
		want := "PACK\x00\x00\x00\x02\x00\x00\x00\x01" + modelHead(kind, 4) + "\x78\x9c"
		if !strings.HasPrefix(b, want) {
			t.Errorf("%x", b)
		}
	}
}

// 11.6

func TestMemoryOfWrite(t *testing.T) {
	rnd := rand.New(rand.NewSource(1161))
	text := noise(rnd, 2000)
	bodies := []string{text, text[:100] + text[99:], "q", ""}
	given := func() []api.Object {
		l := objects(api.KBlob, bodies...)
		for i := range l {
			l[i].Body = spare(bodies[i])
		}
		return append(l, obj(api.KTree, "behind"))[:4]
	}
	l, thin := given(), given()
	b := pack.Write(l[:2], thin[1:])
	ordered := pack.Order(l)
	for _, x := range [][]api.Object{l, thin} {
		if !reflect.DeepEqual(x[:5], given()[:5]) {
			t.Error("changed")
		}
		for i, o := range x {
			if string(o.Body[:len(o.Body)+6]) != bodies[i]+"behind" {
				t.Error("changed", i)
			}
			fill(o.Body)
		}
	}
	if out, e := resolves(t, reads(t, string(b))); e != api.OK || len(out) != 2 {
		t.Error(e)
	}
	for i, o := range pack.Order(objects(api.KBlob, bodies...)) {
		if string(ordered[i].Body) != string(o.Body) {
			t.Error(i)
		}
		fill(ordered[i].Body)
	}
	fill(b)
	writes(t, objects(api.KBlob, bodies...), nil)
}
