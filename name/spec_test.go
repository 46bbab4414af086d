package name_test

import (
	"math/rand"
	"strings"
	"testing"

	"stemma/api"
	"stemma/name"
)

// parses holds a Parse to give this Spec, and its Text to be read as it again.
func parses(t *testing.T, s string, want name.Spec) {
	t.Helper()
	p, e := name.Parse(s)
	if p != want || e != api.OK {
		t.Errorf("%q: %+v, %v", s, p, e)
	}
	again(t, p)
}

func again(t *testing.T, p name.Spec) {
	t.Helper()
	s := name.Text(p)
	if q, e := name.Parse(s); q != p || e != api.OK {
		t.Errorf("%q of %+v: %+v, %v", s, p, q, e)
	}
}

func isRefused(t *testing.T, l ...string) {
	t.Helper()
	for _, s := range l {
		if p, e := name.Parse(s); p != (name.Spec{}) || e != api.ErrForm {
			t.Errorf("%.200q: %+v, %v", s, p, e)
		}
	}
}

// reads holds a Parse to be the model's.
func reads(t *testing.T, s string) {
	t.Helper()
	p, e := name.Parse(s)
	if want, wantE := modelParse(s); p != want || e != wantE {
		t.Fatalf("%q: %+v, %v; not %+v, %v", s, p, e, want, wantE)
	}
	if e == api.OK {
		again(t, p)
	}
}

func mapsTo(t *testing.T, p name.Spec, s, want string) {
	t.Helper()
	if to, ok := name.Map(p, s); to != want || !ok {
		t.Errorf("%+v, %q: %q, %v; not %q", p, s, to, ok, want)
	}
}

func doesNotMap(t *testing.T, p name.Spec, l ...string) {
	t.Helper()
	for _, s := range l {
		if to, ok := name.Map(p, s); to != "" || ok {
			t.Errorf("%.200q, %.200q: %.200q, %v", name.Text(p), s, to, ok)
		}
	}
}

// maps holds a Map to be the model's, and what it gives to be valid.
func maps(t *testing.T, p name.Spec, s string) {
	t.Helper()
	to, ok := name.Map(p, s)
	if want, wantOK := modelMap(p, s); to != want || ok != wantOK || ok != name.Valid(to) {
		t.Fatalf("%+v, %q: %q, %v; not %q, %v", p, s, to, ok, want, wantOK)
	}
}

func spec(t *testing.T, s string) name.Spec {
	t.Helper()
	p, e := name.Parse(s)
	if e != api.OK {
		t.Fatal(s, e)
	}
	return p
}

// 14.2

func TestParse(t *testing.T) {
	parses(t, "refs/a:refs/b", name.Spec{Src: "refs/a", Dst: "refs/b"})
	parses(t, "+refs/a:refs/b", name.Spec{Force: true, Src: "refs/a", Dst: "refs/b"})
	parses(t, "refs/a:refs/a", name.Spec{Src: "refs/a", Dst: "refs/a"})
	parses(t, "+refs/heads/*:refs/remotes/o/*", name.Spec{Force: true, Src: "refs/heads/*", Dst: "refs/remotes/o/*"})
	parses(t, "refs/é:refs/\U0001F600", name.Spec{Src: "refs/é", Dst: "refs/\U0001F600"})
	parses(t, "refs/+:refs/+", name.Spec{Src: "refs/+", Dst: "refs/+"})
}

func TestWithoutDstItIsSrc(t *testing.T) {
	parses(t, "refs/a", name.Spec{Src: "refs/a", Dst: "refs/a"})
	parses(t, "+refs/a", name.Spec{Force: true, Src: "refs/a", Dst: "refs/a"})
	parses(t, "refs/a/*", name.Spec{Src: "refs/a/*", Dst: "refs/a/*"})
	parses(t, "+refs/*", name.Spec{Force: true, Src: "refs/*", Dst: "refs/*"})
}

func TestEmptySrc(t *testing.T) {
	parses(t, ":refs/b", name.Spec{Dst: "refs/b"})
	parses(t, "+:refs/b", name.Spec{Force: true, Dst: "refs/b"})
	isRefused(t, "", "+", ":", "+:", ":+refs/b", ":b", "::", "::refs/b")
}

func TestEmptyDst(t *testing.T) {
	isRefused(t, "refs/a:", "+refs/a:", "refs/*:", "refs/a::", "refs/a:refs/b:")
}

func TestSidesAreValid(t *testing.T) {
	for _, wrong := range []string{"a", "heads/a", "*", "refs", "refs/", "refs*", "re*s/a", "*refs/a", "*/a", "refs//a", "refs//*", "refs/*/", "refs/.*", "refs/*.", "refs/*.lock", "refs/*/.a", "refs/*..a", "refs/*@{", "refs/a b", "refs/* ", "refs/*\xff", "refs/~*", "refs/a?", "refs/\x00", "refs/" + strings.Repeat("a", 96), "refs/*" + strings.Repeat("a", 95)} {
		isRefused(t, wrong, "+"+wrong, wrong+":"+wrong, wrong+":refs/a", wrong+":refs/*", "refs/a:"+wrong, "refs/*:"+wrong, ":"+wrong)
	}
	isRefused(t, "refs/a:refs/b:refs/c", "refs/a:+refs/b", "++refs/a", "+ refs/a", "refs/a :refs/b", "refs/a: refs/b", " refs/a", "refs/a ", "refs/a\n", "refs/a:b", "refs/a b:refs/b", "-refs/a", "^refs/a")
}

// A star stands for a letter, so that it counts as one byte and makes a part that isn't empty.
func TestStarIsALetter(t *testing.T) {
	for _, s := range []string{"refs/*", "refs/a*", "refs/*a", "refs/a*b", "refs/*/b", "refs/a/*/b", "refs/h*d/x", "refs/*.a", "refs/a.*", "refs/*./a", "refs/@*{", "refs/a.l*ck", "refs/a.*lock", "refs/a.lock*", "refs/" + strings.Repeat("a", 94) + "*", "refs/*" + strings.Repeat("a", 94)} {
		parses(t, s, name.Spec{Src: s, Dst: s})
		parses(t, "+refs/*:"+s, name.Spec{Force: true, Src: "refs/*", Dst: s})
		parses(t, s+":refs/x/*/y", name.Spec{Src: s, Dst: "refs/x/*/y"})
	}
}

func TestAtMostOneStar(t *testing.T) {
	isRefused(t, "refs/**", "refs/*/*", "refs/**:refs/*", "refs/*:refs/**", "refs/*/*:refs/*/*", "refs/*a*:refs/b", "refs/a:refs/*b*", "refs/***", ":refs/**")
}

func TestBothHaveAStarOrNone(t *testing.T) {
	isRefused(t, "refs/*:refs/a", "refs/a:refs/*", "+refs/*:refs/a", "+refs/a:refs/*", ":refs/*", "+:refs/*", "refs/a*:refs/a")
}

func TestParseByTheModel(t *testing.T) {
	sequences([]string{"+", ":", "*", "refs/", "a", ".", "/"}, 6, func(s string) { reads(t, s) })
	sequences([]string{":", "*", "refs/", "a", "\xff"}, 5, func(s string) { reads(t, "+refs/"+s); reads(t, "refs/a:"+s); reads(t, s+":refs/*") })
}

func TestText(t *testing.T) {
	for s, p := range map[string]name.Spec{
		"refs/a:refs/b":   {Src: "refs/a", Dst: "refs/b"},
		"+refs/a:refs/a":  {Force: true, Src: "refs/a", Dst: "refs/a"},
		":refs/b":         {Dst: "refs/b"},
		"+:refs/b":        {Force: true, Dst: "refs/b"},
		"refs/*:refs/b/*": {Src: "refs/*", Dst: "refs/b/*"},
		// Text asks nothing of a Spec.
		":":          {},
		"+:":         {Force: true},
		"a:":         {Src: "a"},
		"++:::\xff ": {Force: true, Src: "+:", Dst: ":\xff "},
	} {
		if got := name.Text(p); got != s {
			t.Errorf("%+v: %q, not %q", p, got, s)
		}
	}
}

// 14.3

func TestMapWithoutAStar(t *testing.T) {
	p := spec(t, "refs/a:refs/b/c")
	mapsTo(t, p, "refs/a", "refs/b/c")
	doesNotMap(t, p, "", "refs/b/c", "refs/ab", "refs/", "refs/a/b", "refs/A", "xrefs/a", "refs/a ", "*", "refs/*")
	mapsTo(t, spec(t, "+refs/a"), "refs/a", "refs/a")
	mapsTo(t, spec(t, ":refs/b"), "", "refs/b")
	doesNotMap(t, spec(t, ":refs/b"), "refs/b", "refs/a", ":")
}

func TestMapWithAStar(t *testing.T) {
	p := spec(t, "+refs/heads/*:refs/remotes/o/*")
	mapsTo(t, p, "refs/heads/a", "refs/remotes/o/a")
	mapsTo(t, p, "refs/heads/x/y", "refs/remotes/o/x/y")
	mapsTo(t, p, "refs/heads/refs/heads/a", "refs/remotes/o/refs/heads/a")
	doesNotMap(t, p, "", "refs/heads", "refs/heads/", "refs/head/a", "refs/tags/a", "refs/headsa", "a", "refs/remotes/o/a", "xrefs/heads/a", "Refs/heads/a")
	mapsTo(t, spec(t, "refs/*/x:refs/y/*"), "refs/a/b/x", "refs/y/a/b")
	mapsTo(t, spec(t, "refs/a*c:refs/*"), "refs/abc", "refs/b")
	mapsTo(t, spec(t, "refs/x/*:refs/*/y/z"), "refs/x/a", "refs/a/y/z")
	mapsTo(t, spec(t, "refs/*:refs/*"), "refs/a", "refs/a")
}

func TestStarIsNothing(t *testing.T) {
	mapsTo(t, spec(t, "refs/a*:refs/b*"), "refs/a", "refs/b")
	mapsTo(t, spec(t, "refs/a*b:refs/*c"), "refs/ab", "refs/c")
	mapsTo(t, spec(t, "refs/*/a:refs/x*"), "refs//a", "refs/x")
	doesNotMap(t, spec(t, "refs/a*:refs/*"), "refs/a")
	doesNotMap(t, spec(t, "refs/a*:refs/*/b"), "refs/a")
}

// What stands before the star and what stands behind it don't overlap.
func TestStarIsNotLessThanNothing(t *testing.T) {
	doesNotMap(t, spec(t, "refs/a*a:refs/b*"), "refs/a")
	doesNotMap(t, spec(t, "refs/aba*ba:refs/b*"), "refs/aba", "refs/ababa"[:8])
	mapsTo(t, spec(t, "refs/aba*ba:refs/b*"), "refs/ababa", "refs/b")
	mapsTo(t, spec(t, "refs/a*a:refs/b*"), "refs/aa", "refs/b")
	mapsTo(t, spec(t, "refs/a*a:refs/b*"), "refs/aaa", "refs/ba")
	doesNotMap(t, spec(t, "refs/*/refs/a:refs/b*"), "refs/refs/a", "refs/a")
}

func TestMappedNamesAreValid(t *testing.T) {
	p := spec(t, "refs/heads/*:refs/o/*")
	doesNotMap(t, p, "refs/heads/", "refs/heads//a", "refs/heads/a/", "refs/heads/.a", "refs/heads/a..b", "refs/heads/a.lock", "refs/heads/*", "refs/heads/a*", "refs/heads/a b", "refs/heads/\xff", "refs/heads/a.", "refs/heads/a@{")
	mapsTo(t, spec(t, "refs/heads/*:refs/o/*a"), "refs/heads/b.", "refs/o/b.a")
	doesNotMap(t, spec(t, "refs/heads/*:refs/o/*lock"), "refs/heads/b.")
	doesNotMap(t, spec(t, "refs/heads/*:refs/o/*{"), "refs/heads/@")
	doesNotMap(t, spec(t, "refs/heads/*:refs/o.*"), "refs/heads/.")
	mapsTo(t, spec(t, "refs/*:refs/h/*"), "refs/"+strings.Repeat("a", 93), "refs/h/"+strings.Repeat("a", 93))
	doesNotMap(t, spec(t, "refs/*:refs/h/*"), "refs/"+strings.Repeat("a", 94), "refs/"+strings.Repeat("a", 95))
	mapsTo(t, spec(t, "refs/h/*:refs/*"), "refs/h/"+strings.Repeat("a", 95), "refs/"+strings.Repeat("a", 95))
}

// A Spec that Parse wouldn't give is gone through in the same way: s and Src need not be names, and only one star can be replaced.
func TestMapOfOtherSpecs(t *testing.T) {
	mapsTo(t, name.Spec{Src: "a", Dst: "refs/a"}, "a", "refs/a")
	mapsTo(t, name.Spec{Src: "*", Dst: "refs/*"}, "a/b", "refs/a/b")
	mapsTo(t, name.Spec{Src: "x/*", Dst: "*"}, "x/refs/a", "refs/a")
	mapsTo(t, name.Spec{Src: "\xff*", Dst: "refs*"}, "\xff/a", "refs/a")
	doesNotMap(t, name.Spec{Src: "refs/a", Dst: "b"}, "refs/a")
	doesNotMap(t, name.Spec{Src: "refs/a", Dst: "refs/*"}, "refs/a")
	doesNotMap(t, name.Spec{Src: "refs/a"}, "refs/a")
	doesNotMap(t, name.Spec{}, "", "refs/a")
	doesNotMap(t, name.Spec{Src: "refs/*", Dst: "refs/b"}, "refs/a", "refs/", "refs/*")
	doesNotMap(t, name.Spec{Src: "refs/*", Dst: "refs/*/*"}, "refs/a")
	doesNotMap(t, name.Spec{Src: "refs/*/*", Dst: "refs/h/*"}, "refs/a/b", "refs/a/a", "refs/a/*", "refs/*/*", "refs/a")
}

func TestMapByTheModel(t *testing.T) {
	var names []string
	sequences([]string{"a", "b", "/", "*", "."}, 4, func(s string) { names = append(names, "refs/"+s) })
	var sides []string
	sequences([]string{"a", "/", "*", "."}, 3, func(s string) { sides = append(sides, "refs/"+s) })
	for i, src := range sides {
		for j, dst := range sides {
			for k := (i + j) % 7; k < len(names); k += 7 {
				maps(t, name.Spec{Src: src, Dst: dst}, names[k])
			}
		}
	}
}

// 14.4

func TestTextOfWhatWasRead(t *testing.T) {
	r := rand.New(rand.NewSource(144))
	side := func() string {
		parts := []string{"a", "b.c", "*", "é", "x@y", ""}
		s := "refs"
		for range 1 + r.Intn(3) {
			s += "/" + parts[r.Intn(len(parts))]
		}
		return s
	}
	read := 0
	for range 50_000 {
		s := strings.Repeat("+", r.Intn(2)) + side() + ":" + side()
		p, e := name.Parse(s)
		if e != api.OK {
			continue
		}
		read++
		if name.Text(p) != s {
			t.Fatalf("%q: %q", s, name.Text(p))
		}
		again(t, p)
		maps(t, p, side())
		maps(t, p, strings.Replace(p.Src, "*", "q/r", 1))
	}
	if read < 1000 {
		t.Error(read)
	}
}

// Names that are mapped there and back are the same again.
func TestMapThereAndBack(t *testing.T) {
	there, back := spec(t, "refs/heads/*:refs/o/*/p"), spec(t, "refs/o/*/p:refs/heads/*")
	for _, s := range []string{"refs/heads/a", "refs/heads/a/p", "refs/heads/é.x/y", "refs/heads/o/p"} {
		to, ok := name.Map(there, s)
		if !ok {
			t.Fatal(s)
		}
		mapsTo(t, back, to, s)
	}
}
