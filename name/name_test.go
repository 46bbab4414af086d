package name_test

import (
	"math/rand"
	"strings"
	"testing"

	"stemma/name"
)

func isValid(t *testing.T, l ...string) {
	t.Helper()
	for _, s := range l {
		if !name.Valid(s) {
			t.Errorf("%q isn't valid", s)
		}
	}
}

func isNotValid(t *testing.T, l ...string) {
	t.Helper()
	for _, s := range l {
		if name.Valid(s) {
			t.Errorf("%q is valid", s)
		}
	}
}

// agrees holds Valid to be the model's.
func agrees(t *testing.T, s string) {
	t.Helper()
	if got := name.Valid(s); got != modelValid(s) {
		t.Fatalf("%q: %v", s, got)
	}
}

// sequences calls what it is given with all texts of up to n of these pieces.
func sequences(pieces []string, n int, each func(string)) {
	var extend func(string, int)
	extend = func(s string, left int) {
		each(s)
		if left == 0 {
			return
		}
		for _, p := range pieces {
			extend(s+p, left-1)
		}
	}
	extend("", n)
}

// 14.1

func TestValidNames(t *testing.T) {
	isValid(t, "refs/heads/a", "refs/x", "refs/tags/v1.0", "refs/remotes/o/x/y", "refs/refs/refs", "refs/a/b/c/d/e/f/g", "refs/HEAD", "refs/-", "refs/+a", "refs/'\"`$%&()!#,;<=>|")
}

func TestNameBeginsWithRefs(t *testing.T) {
	isNotValid(t, "", "r", "refs", "ref/a", "refsa", "refs.a", "refs.", "Refs/a", "REFS/a", "heads/a", "a/refs/b", "/refs/a", "./refs/a", " refs/a", "\uFEFFrefs/a", "HEAD", "packed-refs", "xrefs/a", "refſ/a")
}

func TestNameHasTwoParts(t *testing.T) {
	isNotValid(t, "refs", "refs/")
	isValid(t, "refs/a")
}

func TestNameHasAtMost100Bytes(t *testing.T) {
	isValid(t, "refs/"+strings.Repeat("a", 94), "refs/"+strings.Repeat("a", 95))
	isNotValid(t, "refs/"+strings.Repeat("a", 96), "refs/"+strings.Repeat("a", 97), "refs/"+strings.Repeat("a", 1<<20))
	// Bytes, and not characters, are counted.
	isValid(t, "refs/a"+strings.Repeat("é", 47), "refs/aaa"+strings.Repeat("語", 30)+"é")
	isNotValid(t, "refs/"+strings.Repeat("é", 48), "refs/"+strings.Repeat("語", 32), "refs/"+strings.Repeat("é", 60))
	// Nor does the number of parts count.
	isValid(t, "refs"+strings.Repeat("/a", 48))
	isNotValid(t, "refs"+strings.Repeat("/a", 49))
}

func TestNameIsUTF8(t *testing.T) {
	isValid(t, "refs/é", "refs/語", "refs/\U0001F600", "refs/\U0010FFFF", "refs/\uFFFD", "refs/\u0080", "refs/\u00A0", "refs/\u2028", "refs/e\u0301", "refs/\uFEFF")
	for _, wrong := range []string{
		"\xff", "\xfe", "\x80", "\xbf", "\xc3", "\xe8\xaa", "\xf0\x9f\x98", // torn, or never in it
		"\xc0\xaf", "\xc1\xbf", "\xe0\x80\xaf", "\xf0\x80\x80\xaf", // longer than they need be
		"\xed\xa0\x80", "\xed\xbf\xbf", // halves of pairs
		"\xf4\x90\x80\x80", "\xf8\x88\x80\x80\x80", // too great
		"\xa9\xc3", "é\xa9",
	} {
		isNotValid(t, "refs/"+wrong, "refs/a"+wrong, "refs/"+wrong+"a", "refs/"+wrong+"/a", "refs/\uFFFD"+wrong)
	}
}

func TestExcludedCharacters(t *testing.T) {
	for _, r := range "~^:?*[\\\x7f\x00\x01\t\n\v\f\r\x1b\x1f " {
		c := string(r)
		isNotValid(t, "refs/"+c, "refs/"+c+"a", "refs/a"+c, "refs/a"+c+"b", "refs/a/"+c+"/b", "refs/"+c+"/b", "refs/a"+c+"/b", "refs"+c+"/a")
	}
	isValid(t, "refs/!", "refs/\"", "refs/]", "refs/}", "refs/{", "refs/@", "refs/;", "refs/|")
}

// Every character, and every byte of none, alone and within others.
func TestEveryCharacter(t *testing.T) {
	for r := rune(0); r <= 0x10FFFF; r++ {
		if s := "refs/a" + string(r) + "b"; name.Valid(s) != (r > 32 && r != 127 && !strings.ContainsRune("~^:?*[\\", r)) {
			t.Fatalf("%q: %v", s, name.Valid(s))
		}
	}
}

func TestEveryPairOfBytes(t *testing.T) {
	for a := range 256 {
		for b := range 256 {
			pair := string([]byte{byte(a), byte(b)})
			agrees(t, "refs/"+pair)
			agrees(t, "refs/a"+pair+"c")
			agrees(t, "refs"+pair)
		}
	}
}

func TestPartsAreNotEmpty(t *testing.T) {
	isNotValid(t, "refs//", "refs//a", "refs/a/", "refs/a//b", "refs/a/b/", "refs///", "//refs/a", "/")
}

func TestPartsDoNotBeginWithADot(t *testing.T) {
	isNotValid(t, "refs/.", "refs/.a", "refs/a/.b", "refs/.a/b", "refs/a/.", "refs/a/./b", "refs/./a", ".refs/a")
	isValid(t, "refs/a.b", "refs/a/b.c", "refs/a./b", "refs/a.b/c.d", "refs/-.a")
}

func TestPartsDoNotEndWithLock(t *testing.T) {
	isNotValid(t, "refs/a.lock", "refs/a.lock/b", "refs/a/b.lock", "refs/a/b.lock/c", "refs/.lock", "refs/.lock/a", "refs/a.lock.lock", "refs/é.lock", "refs/lock.lock", "refs/a.lock/b.lock", "refs.lock/a")
	isValid(t, "refs/lock", "refs/alock", "refs/a.lockx", "refs/a.lockx/b", "refs/a.lock.b", "refs/a.Lock", "refs/a.LOCK", "refs/a./lock", "refs/a.loc/k", "refs/a.loc", "refs/xlock/b", "refs/a.lo/ck", "refs/a.lock-/b")
}

func TestPairsOfCharacters(t *testing.T) {
	isNotValid(t, "refs/a..b", "refs/..", "refs/a..", "refs/a../b", "refs/a/..", "refs/../a", "refs/a...b", "refs..a", "refs/a@{b", "refs/@{", "refs/@{}", "refs/a@{1}", "refs/@{/b", "refs/a/@{b")
	isValid(t, "refs/a.b.c", "refs/a@b", "refs/@", "refs/a@", "refs/{", "refs/a{@b", "refs/@}{", "refs/@/{", "refs/@@", "refs/{@}", "refs/@.{")
}

func TestNameDoesNotEndWithADot(t *testing.T) {
	isNotValid(t, "refs/a.", "refs/a/b.", "refs/a.b.", "refs.", "refs/é.", "refs/a/.", "refs/"+strings.Repeat("a", 94)+".")
	isValid(t, "refs/a./b", "refs/a./b./c")
}

// All texts of some pieces that mean something, with the model.
func TestValidByTheModel(t *testing.T) {
	pieces := []string{"/", ".", "lock", ".lock", "@", "{", "a", "é", "\xa9", "*", "\uFFFD"}
	for _, begin := range []string{"", "refs", "refs/", "refs/heads/a"} {
		sequences(pieces, 5, func(s string) { agrees(t, begin+s) })
	}
}

// Names in which some bytes are others, are missing or stand there twice.
func TestChangedNames(t *testing.T) {
	r := rand.New(rand.NewSource(14))
	names := []string{"refs/heads/main", "refs/tags/v1.0.lock.x/y", "refs/é/語/\U0001F600", "refs/a@b{c}", "refs/" + strings.Repeat("ab/", 31) + "a"}
	bytes := "/.@{lock*:~\x00\x1f !\x7f\x80\xc3\xa9\xff"
	for range 200_000 {
		b := []byte(names[r.Intn(len(names))])
		for range 1 + r.Intn(3) {
			at := r.Intn(len(b))
			switch r.Intn(3) {
			case 0:
				b[at] = bytes[r.Intn(len(bytes))]
			case 1:
				b = append(b[:at], b[at+1:]...)
			case 2:
				b = append(b[:at+1], b[at:]...)
			}
		}
		agrees(t, string(b))
	}
}

func TestUnder(t *testing.T) {
	for _, p := range [][2]string{{"refs/a", "refs/a/b"}, {"refs/a", "refs/a/b/c"}, {"refs", "refs/a"}, {"refs/a", "refs/a/"}, {"", "/"}, {"", "/a"}, {"a/", "a//"}, {"é", "é/a"}, {"a/b", "a/b/c"}, {"/", "//"}, {"\xff", "\xff/"}} {
		if !name.Under(p[0], p[1]) {
			t.Errorf("%q isn't under %q", p[1], p[0])
		}
	}
	for _, p := range [][2]string{{"refs/a", "refs/a"}, {"refs/a", "refs/ab"}, {"refs/a", "refs/ab/c"}, {"refs/a/b", "refs/a"}, {"refs/a", "refs/b/a"}, {"refs/a", "refs"}, {"", ""}, {"", "a"}, {"", "a/b"}, {"a", ""}, {"a/", "a/b"}, {"b", "a/b/c"}, {"a", "A/b"}, {"refs/a", "refs/b/c"}} {
		if name.Under(p[0], p[1]) {
			t.Errorf("%q is under %q", p[1], p[0])
		}
	}
}

func TestUnderByTheModel(t *testing.T) {
	var l []string
	sequences([]string{"/", "a", "b"}, 5, func(s string) { l = append(l, s) })
	for _, a := range l {
		for _, b := range l {
			if got := name.Under(a, b); got != modelUnder(a, b) {
				t.Fatalf("%q, %q: %v", a, b, got)
			}
		}
	}
}

// 14.5

func TestAnyTexts(t *testing.T) {
	r := rand.New(rand.NewSource(145))
	text := func() string {
		b := make([]byte, r.Intn(120))
		r.Read(b)
		if r.Intn(2) == 0 {
			copy(b, "refs/*:refs/")
		}
		return string(b)
	}
	for range 10_000 {
		a, b, c := text(), text(), text()
		agrees(t, a)
		if name.Under(a, b) != modelUnder(a, b) {
			t.Fatalf("%q, %q", a, b)
		}
		reads(t, a)
		maps(t, name.Spec{Force: len(c)%2 == 0, Src: a, Dst: b}, c)
	}
}

func TestGreatTexts(t *testing.T) {
	const n = 1 << 21
	for _, s := range []string{strings.Repeat("refs/", n/5), "refs/" + strings.Repeat("*", n), "refs/" + strings.Repeat(":", n), strings.Repeat("+", n), "refs/*" + strings.Repeat("a", n), "refs/" + strings.Repeat("\xff", n), "refs/" + strings.Repeat(".", n)} {
		isNotValid(t, s)
		isRefused(t, s, "+"+s, ":"+s, s+":refs/a", "refs/a:"+s)
		doesNotMap(t, name.Spec{Src: s, Dst: s}, s)
		doesNotMap(t, name.Spec{Src: "*", Dst: "refs/*"}, s)
		doesNotMap(t, name.Spec{Src: "refs/*", Dst: s}, "refs/a")
		if to, ok := name.Map(name.Spec{Src: s[:len(s)-1], Dst: "refs/a"}, s[:len(s)-1]); stars(s) == 0 && (to != "refs/a" || !ok) {
			t.Error(to, ok)
		}
	}
}
