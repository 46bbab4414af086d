package pack_test

import (
	"fmt"
	"math"
	"math/rand"
	"reflect"
	"slices"
	"strings"
	"testing"

	"stemma/api"
	"stemma/pack"
)

// source is a get that notes what it is asked.
type source struct {
	objects []api.Object
	asked   []string
}

func (s *source) get(id string) (int, []byte, bool) {
	s.asked = append(s.asked, id)
	for _, o := range s.objects {
		if o.ID == id {
			return o.Kind, o.Body, true
		}
	}
	return 0, nil, false
}

// resolves holds a Resolve to the model's, also in what it asks, and tells its result.
func resolves(t *testing.T, l []pack.Raw, objects ...api.Object) ([]api.Object, api.Errno) {
	t.Helper()
	one, two := &source{objects: objects}, &source{objects: objects}
	got, e := pack.Resolve(l, one.get)
	want, wantE := modelResolve(l, two.get)
	if e != wantE || !reflect.DeepEqual(filled(got), filled(want)) {
		t.Fatalf("%v: %v, %v; not %v, %v", l, got, e, want, wantE)
	}
	if !slices.Equal(one.asked, two.asked) {
		t.Fatalf("%v: asked %v, not %v", l, one.asked, two.asked)
	}
	return got, e
}

// filled makes nil and empty bodies one.
func filled(l []api.Object) []api.Object {
	out := append([]api.Object{}, l...)
	for i := range out {
		out[i].Body = append([]byte{}, out[i].Body...)
	}
	return out
}

func hasError(t *testing.T, l []pack.Raw, want api.Errno, objects ...api.Object) {
	t.Helper()
	if got, e := resolves(t, l, objects...); e != want || len(got) > 0 {
		t.Errorf("%v: %d objects, %v; not %v", l, len(got), e, want)
	}
}

// hasBodies fails if the objects of l aren't of that kind and of these bodies.
func hasBodies(t *testing.T, l []pack.Raw, kind int, bodies []string, objects ...api.Object) {
	t.Helper()
	got, e := resolves(t, l, objects...)
	if e != api.OK || len(got) != len(bodies) {
		t.Fatalf("%v: %d objects, %v", l, len(got), e)
	}
	for i, o := range got {
		if o.Kind != kind || string(o.Body) != bodies[i] || o.ID != modelID(kind, bodies[i]) || o.At != l[i].At || o.CRC != l[i].CRC {
			t.Errorf("%v: %v; not %q", l, o, bodies[i])
		}
	}
}

// Entries for a Resolve, at places of their own.

func rawOf(at, kind int, body string) pack.Raw {
	return pack.Raw{Kind: kind, At: at, Size: len(body), CRC: uint32(7 * at), Data: []byte(body)}
}

func rawOfs(at, off int, d string) pack.Raw {
	r := rawOf(at, api.KOfs, d)
	r.Off = off
	return r
}

func rawRef(at int, id, d string) pack.Raw {
	r := rawOf(at, api.KRef, d)
	r.Base = id
	return r
}

// rawBlob is a delta on a blob by its ID.
func rawBlob(at int, from, to string) pack.Raw {
	return rawRef(at, modelID(api.KBlob, from), change(from, to))
}

// 11.3

func TestResolve(t *testing.T) {
	for _, kind := range []int{api.KCommit, api.KTree, api.KBlob, api.KTag} {
		hasBodies(t, nil, kind, nil)
		hasBodies(t, []pack.Raw{rawOf(12, kind, "one"), rawOf(40, kind, ""), rawOf(30, kind, "one")}, kind, []string{"one", "", "one"})
		l := []pack.Raw{rawOf(12, kind, "one"), rawOfs(20, 12, change("one", "two")), rawOfs(30, 20, change("two", "three")), rawOfs(40, 12, change("one", "four"))}
		hasBodies(t, l, kind, []string{"one", "two", "three", "four"})
		l = []pack.Raw{rawRef(12, modelID(kind, "two"), change("two", "three")), rawRef(20, modelID(kind, "one"), change("one", "two")), rawOf(30, kind, "one"), rawOfs(50, 12, change("three", "four"))}
		hasBodies(t, l, kind, []string{"three", "two", "one", "four"})
		hasBodies(t, l[:2], kind, []string{"three", "two"}, obj(kind, "one"))
		hasBodies(t, l[:1], kind, []string{"three"}, obj(kind, "one"), obj(kind, "two"))
		hasError(t, l[:2], api.ErrNone, obj(kind%4+1, "one"))
	}
}

func TestResolveOfSample(t *testing.T) {
	l := reads(t, sample())
	if _, e := resolves(t, l); e != api.ErrForm && e != api.ErrTorn { // of the last one, which is no delta
		t.Error(e)
	}
	out, e := resolves(t, l[:6])
	if e != api.OK || len(out) != 6 || string(out[2].Body) != lines(2, 9) || string(out[3].Body) != lines(3, 12) || out[3].Kind != api.KBlob || out[5].Kind != api.KTag {
		t.Error(out, e)
	}
}

// A KOfs has its base before it, at its Off.
func TestOffsets(t *testing.T) {
	d := change("one", "two")
	one, two := rawOf(12, api.KBlob, "one"), rawOfs(20, 12, d)
	hasError(t, []pack.Raw{two, one}, api.ErrForm)
	hasError(t, []pack.Raw{two}, api.ErrForm)
	hasError(t, []pack.Raw{two}, api.ErrForm, obj(api.KBlob, "one"))
	hasError(t, []pack.Raw{one, rawOfs(20, 20, d)}, api.ErrForm)
	for _, off := range []int{0, 11, 13, 19, 21, -12, math.MinInt, math.MaxInt} {
		hasError(t, []pack.Raw{one, rawOfs(20, off, d)}, api.ErrForm)
		hasError(t, []pack.Raw{one, rawOfs(20, off, d), rawOf(off, api.KBlob, "one")}, api.ErrForm)
		hasBodies(t, []pack.Raw{rawOf(off, api.KBlob, "one"), rawOfs(20, off, d)}, api.KBlob, []string{"one", "two"})
	}
	hasBodies(t, []pack.Raw{rawOf(90, api.KBlob, "one"), rawOfs(20, 90, d), rawOf(1, api.KBlob, "q"), rawOfs(2, 20, change("two", "three"))}, api.KBlob, []string{"one", "two", "q", "three"})
}

// What the base of a KOfs has, it has.
func TestErrorsOfBases(t *testing.T) {
	one := rawOf(12, api.KBlob, "one")
	torn := rawOfs(20, 12, "\x03")
	for _, l := range [][]pack.Raw{
		{rawOfs(30, 20, change("two", "three"))},
		{rawOfs(30, 20, "\x00\x00\x00")},
		{rawOfs(30, 20, change("two", "three")), rawOfs(40, 30, "\x00\x00\x00")},
	} {
		hasError(t, slices.Concat([]pack.Raw{one, torn}, l), api.ErrTorn)
	}
	none := rawRef(20, modelID(api.KBlob, "q"), change("q", "two"))
	hasError(t, []pack.Raw{one, none, rawOfs(30, 20, change("two", "three"))}, api.ErrNone)
	hasError(t, []pack.Raw{one, rawOfs(20, 99, ""), rawOfs(30, 20, "\x03")}, api.ErrForm)
	// A KRef can't be based on an entry with an error, which has no ID.
	hasError(t, []pack.Raw{rawBlob(60, "two", "three"), one, torn}, api.ErrNone)
	for _, id := range []string{"", " ", "q", strings.Repeat("0", 40)} {
		hasError(t, []pack.Raw{rawRef(60, id, "\x00\x00"), one, torn}, api.ErrNone)
		hasError(t, []pack.Raw{one, torn, rawRef(60, id, "\x00\x00")}, api.ErrTorn)
	}
	hasBodies(t, []pack.Raw{rawBlob(60, "two", "three"), one}, api.KBlob, []string{"three", "one"}, obj(api.KBlob, "two"))
}

// The errors of delta.Apply are an entry's own, and 65,536 bytes are its bound.
func TestErrorsOfDeltas(t *testing.T) {
	one := rawOf(12, api.KBlob, "one")
	long := strings.Repeat("z", 65537)
	for d, want := range map[string]api.Errno{
		"":                       api.ErrTorn,
		"\x03":                   api.ErrTorn,
		"\x03\x05\x91":           api.ErrTorn,
		"\x04\x00":               api.ErrForm,
		"\x03\x01":               api.ErrForm,
		"\x03\x01\x00":           api.ErrForm,
		"\x03\x81\x80\x04":       api.ErrBig,
		change("one", long):      api.ErrBig,
		change("two", "more"):    api.OK,
		change("one", long[:9]):  api.OK,
		change("one", long[1:]):  api.OK,
		change("four", "longer"): api.ErrForm,
	} {
		for _, l := range [][]pack.Raw{
			{one, rawOfs(20, 12, d)},
			{one, rawRef(20, modelID(api.KBlob, "one"), d)},
			{rawRef(20, modelID(api.KBlob, "one"), d), one},
			{rawRef(20, modelID(api.KBlob, "one"), d)},
		} {
			if _, e := resolves(t, l, obj(api.KBlob, "one")); e != want {
				t.Errorf("%.20x: %v", d, e)
			}
		}
	}
	if _, e := resolves(t, []pack.Raw{rawRef(20, modelID(api.KBlob, long), change(long, "q"))}, obj(api.KBlob, long)); e != api.OK {
		t.Error(e) // a base from elsewhere has no bound
	}
}

// The first entry of l that has an error is named, whenever it got it.
func TestFirstError(t *testing.T) {
	one := rawOf(12, api.KBlob, "one")
	torn, form, none := rawOfs(20, 12, "\x03"), rawOfs(30, 99, ""), rawBlob(40, "q", "r")
	big := rawOfs(50, 12, "\x03\x81\x80\x04")
	bad := map[int]api.Errno{20: api.ErrTorn, 30: api.ErrForm, 40: api.ErrNone, 50: api.ErrBig}
	l := []pack.Raw{torn, form, none, big}
	rnd := rand.New(rand.NewSource(1131))
	for range 200 {
		rnd.Shuffle(len(l), func(i, j int) { l[i], l[j] = l[j], l[i] })
		hasError(t, slices.Insert(slices.Clone(l), 0, one), bad[l[0].At])
	}
	for i := range l {
		for j := range l {
			hasError(t, []pack.Raw{one, l[i], l[j]}, bad[l[i].At])
			hasError(t, []pack.Raw{rawBlob(60, "one", "two"), one, l[i], l[j]}, bad[l[i].At])
		}
	}
}

// chain is so many deltas, each on the one before, at the places 100, 101, ..; each in a form of its own.
func chain(n int, form func(i int, from, to string) pack.Raw) (l []pack.Raw, last string) {
	for i := range n {
		to := last + string(rune('a'+i%26))
		l = append(l, form(i, last, to))
		last = to
	}
	return l, last
}

func TestMaxDeep(t *testing.T) {
	forms := map[string]func(i int, from, to string) pack.Raw{
		"KOfs": func(i int, from, to string) pack.Raw { return rawOfs(100+i, 99+i, change(from, to)) },
		"KRef": func(i int, from, to string) pack.Raw { return rawBlob(100+i, from, to) },
		"both": func(i int, from, to string) pack.Raw {
			if i%3 == 0 {
				return rawBlob(100+i, from, to)
			}
			return rawOfs(100+i, 99+i, change(from, to))
		},
	}
	for name, form := range forms {
		for _, n := range []int{1, 49, 50, 51, 52, 120} {
			want := api.OK
			if n > 50 {
				want = api.ErrForm
			}
			l, last := chain(n, form)
			l = slices.Insert(l, 0, rawOf(99, api.KBlob, ""))
			got, e := resolves(t, l)
			if e != want || e == api.OK && string(got[n].Body) != last {
				t.Error(name, n, e)
			}
			if name == "KRef" {
				resolves(t, l[1:], obj(api.KBlob, ""))
				slices.Reverse(l)
				if _, e := resolves(t, l); n == 51 && e != api.ErrForm || n > 51 && e != api.ErrNone || n < 51 && e != api.OK {
					t.Error(name, n, e)
				}
			}
			// The object from get counts as no delta, however it was made elsewhere.
			if _, e := resolves(t, slices.Concat(l, []pack.Raw{rawBlob(500, "outside", "new"), rawOfs(501, 500, change("new", "more"))}), obj(api.KBlob, "outside")); n <= 50 && e != api.OK {
				t.Error(name, n, e)
			}
		}
	}
	// That there are too many deltas comes ahead of what the delta has.
	l, _ := chain(50, forms["KOfs"])
	l = slices.Insert(l, 0, rawOf(99, api.KBlob, ""))
	hasError(t, append(l, rawOfs(200, 149, "\x03")), api.ErrForm)
	hasError(t, append(l, rawOfs(200, 148, "\x03")), api.ErrTorn)
}

// With get, a chain is cut in two: what it knows is no delta.
func TestDeepOnGet(t *testing.T) {
	form := func(i int, from, to string) pack.Raw { return rawBlob(100+i, from, to) }
	l, _ := chain(100, form)
	var bodies []api.Object
	text := ""
	for i := range 100 {
		bodies = append(bodies, obj(api.KBlob, text))
		text += string(rune('a' + i%26))
	}
	for _, known := range []int{0, 1, 49, 50, 51, 99} {
		objects := []api.Object{bodies[0], bodies[known]}
		got, e := resolves(t, l[known:], objects...)
		if want := known >= 50; (e == api.OK) != want || want && len(got) != 100-known {
			t.Error(known, e)
		}
	}
	// What is resolved in the pack is preferred, although get would know it.
	hasError(t, l, api.ErrForm, bodies[0], bodies[50])
}

// Of the entries with one ID, the first of those that are resolved by then is the base.
func TestFirstOfTheSame(t *testing.T) {
	form := func(i int, from, to string) pack.Raw { return rawOfs(100+i, 99+i, change(from, to)) }
	l, last := chain(50, form)
	l = slices.Insert(l, 0, rawOf(99, api.KBlob, ""))
	flat, on := rawOf(300, api.KBlob, last), rawBlob(400, last, "new")
	hasError(t, slices.Concat(l, []pack.Raw{flat, on}), api.ErrForm) // the chain is complete when it is on's turn
	hasBodiesAt(t, slices.Concat([]pack.Raw{flat}, l, []pack.Raw{on}), 400, "new")
	hasBodiesAt(t, slices.Concat([]pack.Raw{on}, l, []pack.Raw{flat}), 400, "new") // it is not
	hasBodiesAt(t, slices.Concat(l[:50], []pack.Raw{on}, l[50:], []pack.Raw{flat}), 400, "new")
	hasError(t, slices.Concat(l[:50], []pack.Raw{on}, l[50:]), api.ErrForm)
	hasError(t, slices.Concat(l, []pack.Raw{on, flat}), api.ErrForm)
}

func hasBodiesAt(t *testing.T, l []pack.Raw, at int, body string) {
	t.Helper()
	out, e := resolves(t, l)
	i := slices.IndexFunc(out, func(o api.Object) bool { return o.At == at })
	if e != api.OK || string(out[i].Body) != body {
		t.Errorf("%v, %v", out, e)
	}
}

// get is asked late, in the order of l, once for an ID, and only as long as it is needed.
func TestGet(t *testing.T) {
	id := func(body string) string { return modelID(api.KBlob, body) }
	for i, x := range []struct {
		l     []pack.Raw
		known []string
		asked []string
		e     api.Errno
	}{
		{[]pack.Raw{rawOf(12, 3, "a"), rawBlob(20, "a", "b")}, []string{"a"}, nil, api.OK},
		{[]pack.Raw{rawBlob(20, "a", "b"), rawOf(12, 3, "a")}, []string{"a"}, nil, api.OK},
		{[]pack.Raw{rawBlob(20, "b", "c"), rawBlob(30, "a", "b")}, []string{"a"}, []string{"b", "a"}, api.OK},
		{[]pack.Raw{rawBlob(20, "b", "c"), rawBlob(30, "a", "b")}, []string{"a", "b"}, []string{"b", "a"}, api.OK},
		{[]pack.Raw{rawBlob(20, "a", "b"), rawBlob(30, "b", "c")}, []string{"a", "b"}, []string{"a"}, api.OK},
		{[]pack.Raw{rawBlob(20, "a", "b"), rawBlob(30, "a", "c"), rawBlob(40, "a", "d")}, []string{"a"}, []string{"a"}, api.OK},
		{[]pack.Raw{rawBlob(20, "a", "b"), rawBlob(30, "a", "c"), rawBlob(40, "q", "d")}, nil, []string{"a", "q"}, api.ErrNone},
		{[]pack.Raw{rawBlob(20, "q", "b"), rawBlob(30, "a", "c"), rawBlob(40, "q", "d"), rawBlob(50, "d", "e"), rawBlob(60, "c", "q")}, []string{"a"}, []string{"q", "a"}, api.OK},
		{[]pack.Raw{rawBlob(20, "q", "b"), rawBlob(30, "a", "c"), rawBlob(40, "r", "d"), rawOfs(50, 40, "")}, []string{"a"}, []string{"q", "a", "r"}, api.ErrNone},
		{[]pack.Raw{rawOfs(50, 40, ""), rawBlob(20, "a", "b"), rawBlob(30, "x", "y")}, []string{"a", "x"}, []string{"a", "x"}, api.ErrForm},
		{[]pack.Raw{rawRef(20, id("a"), "\x03"), rawBlob(30, "a", "c")}, []string{"a"}, []string{"a"}, api.ErrTorn},
	} {
		s := &source{}
		for _, body := range x.known {
			s.objects = append(s.objects, obj(api.KBlob, body))
		}
		resolves(t, x.l, s.objects...)
		_, e := pack.Resolve(x.l, s.get)
		var want []string
		for _, body := range x.asked {
			want = append(want, id(body))
		}
		if e != x.e || !slices.Equal(s.asked, want) {
			t.Errorf("%d: asked %v, not %v; %v", i, s.asked, want, e)
		}
	}
}

func TestNoGet(t *testing.T) {
	l := []pack.Raw{rawBlob(20, "a", "b"), rawOf(12, 3, "a")}
	if out, e := pack.Resolve(l, nil); e != api.OK || string(out[0].Body) != "b" {
		t.Error(out, e)
	}
	if out, e := pack.Resolve(l[:1], nil); e != api.ErrNone || out != nil {
		t.Error(out, e)
	}
}

// What isn't the object with the ID is nothing, also where it says that it is something.
func TestGetThatLies(t *testing.T) {
	l := []pack.Raw{rawBlob(20, "a", "b"), rawBlob(30, "c", "d")}
	for name, get := range map[string]func(string) (int, []byte, bool){
		"other body": func(string) (int, []byte, bool) { return api.KBlob, []byte("q"), true },
		"other kind": func(string) (int, []byte, bool) { return api.KTree, []byte("a"), true },
		"no kind":    func(string) (int, []byte, bool) { return 0, []byte("a"), true },
		"false":      func(string) (int, []byte, bool) { return api.KBlob, []byte("a"), false },
		"nothing":    func(string) (int, []byte, bool) { return 0, nil, true },
	} {
		if out, e := pack.Resolve(l[:1], get); e != api.ErrNone || out != nil {
			t.Error(name, out, e)
		}
	}
}

// get may have its answers in one place.
func TestGetThatUsesMemoryAgain(t *testing.T) {
	a, b := lines(1, 20), lines(21, 40)
	l := []pack.Raw{rawBlob(20, a, a+"1"), rawBlob(30, b, b+"2"), rawBlob(40, a, a+"3")}
	memory := make([]byte, 0, 1000)
	get := func(id string) (int, []byte, bool) {
		memory = append(memory[:0], map[string]string{l[0].Base: a, l[1].Base: b}[id]...)
		return api.KBlob, memory, true
	}
	out, e := pack.Resolve(l, get)
	if e != api.OK || string(out[0].Body) != a+"1" || string(out[1].Body) != b+"2" || string(out[2].Body) != a+"3" {
		t.Error(out, e)
	}
}

// Lists by chance, of few texts, so that there is much to be based on.
func TestResolveByTheModel(t *testing.T) {
	rnd := rand.New(rand.NewSource(1132))
	seen := map[api.Errno]int{}
	for range 30000 {
		texts := make([]string, 2+rnd.Intn(6))
		for i := range texts {
			texts[i] = fmt.Sprint("text ", i)
		}
		text := func() string { return texts[rnd.Intn(len(texts))] }
		var l []pack.Raw
		at := 12
		for range rnd.Intn(8) {
			switch rnd.Intn(8) {
			case 0:
				l = append(l, rawOf(at, 2+rnd.Intn(2), text()))
			case 1, 2:
				off := 99
				if len(l) > 0 && rnd.Intn(9) > 0 {
					off = l[rnd.Intn(len(l))].At
				}
				l = append(l, rawOfs(at, off, change(text(), text())))
			default:
				l = append(l, rawBlob(at, text(), text()))
			}
			if rnd.Intn(20) == 0 {
				l[len(l)-1].Data = []byte("\x06\x07\x91")
			}
			at += rnd.Intn(3)
		}
		if rnd.Intn(3) == 0 {
			rnd.Shuffle(len(l), func(i, j int) { l[i], l[j] = l[j], l[i] })
		}
		var known []api.Object
		for range rnd.Intn(4) {
			known = append(known, obj(api.KBlob, text()))
		}
		_, e := resolves(t, l, known...)
		seen[e]++
	}
	for _, e := range []api.Errno{api.OK, api.ErrForm, api.ErrTorn, api.ErrNone} {
		if seen[e] < 100 {
			t.Error(e, seen[e])
		}
	}
}

// Many passes, and many objects from get, take no long time.
func TestResolveEnds(t *testing.T) {
	var refs, back []pack.Raw
	var objects []api.Object
	byID := map[string]int{}
	for i := range 4096 {
		from, to := fmt.Sprint("from ", i), fmt.Sprint("to ", i)
		refs = append(refs, rawBlob(12+i, from, to))
		byID[modelID(api.KBlob, from)] = len(objects)
		objects = append(objects, obj(api.KBlob, from))
		back = append(back, rawBlob(12+i, fmt.Sprint("text ", i), fmt.Sprint("text ", i-1)))
	}
	out, e := pack.Resolve(refs, func(id string) (int, []byte, bool) {
		o := objects[byID[id]]
		return o.Kind, o.Body, true
	})
	if len(out) != 4096 || e != api.OK {
		t.Error(len(out), e)
	}
	if _, e := pack.Resolve(append(back, rawOf(9999, api.KBlob, "text 4095")), nil); e != api.ErrNone {
		t.Error(e)
	}
}

// 11.5

// What is returned has the IDs of its bytes, whatever the pack is.
func TestIDs(t *testing.T) {
	b := sample()
	seen := map[api.Errno]int{}
	for at := 12; at < len(b)-20; at++ {
		for x := range 256 {
			l, _, e := pack.Read([]byte(summed(b[:at] + string([]byte{byte(x)}) + b[at+1:len(b)-20])))
			if e != api.OK {
				continue
			}
			out, e := resolves(t, l[:min(6, len(l))], obj(api.KBlob, lines(1, 10)))
			seen[e]++
			for _, o := range out {
				if o.ID != modelID(o.Kind, string(o.Body)) {
					t.Error(at, x, o)
				}
			}
		}
	}
	if seen[api.OK] < 100 || seen[api.ErrForm] < 5 {
		t.Error(seen)
	}
}

func TestKindsThatAreNone(t *testing.T) {
	for _, kind := range []int{0, 5, 8, -1, math.MinInt, math.MaxInt} {
		out, e := resolves(t, []pack.Raw{rawOf(12, kind, "text")})
		if e != api.OK || len(out) != 1 || out[0].Kind != kind {
			t.Error(out, e)
		}
	}
}

// 11.6

func TestMemoryOfResolve(t *testing.T) {
	entries := func() []pack.Raw {
		l := []pack.Raw{rawOf(12, api.KBlob, "one"), rawOfs(20, 12, change("one", "two")), rawBlob(30, "three", "four"), rawOf(40, api.KTree, "")}
		for i := range l {
			l[i].Data = spare(string(l[i].Data))
		}
		return l
	}
	l, body := entries(), spare("three")
	get := func(string) (int, []byte, bool) { return api.KBlob, body, true }
	out, e := pack.Resolve(l, get)
	if e != api.OK || !reflect.DeepEqual(l, entries()) || string(body[:11]) != "threebehind" {
		t.Error(l, e)
	}
	for i, r := range l {
		if string(r.Data[:len(r.Data)+6]) != string(entries()[i].Data)+"behind" {
			t.Errorf("%q", r.Data[:len(r.Data)+6])
		}
		fill(r.Data)
	}
	fill(body)
	for i, want := range []string{"one", "two", "four", ""} {
		if string(out[i].Body) != want {
			t.Errorf("%q, not %q", out[i].Body, want)
		}
		fill(out[i].Body)
	}
}
