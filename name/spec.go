package name

import (
	"strings"

	"stemma/api"
)

const star = "*"

// Spec is a refspec: which names are mapped, and to which.
type Spec struct {
	Force    bool
	Src, Dst string
}

// Parse reads a refspec.
func Parse(s string) (Spec, api.Errno) {
	src, force := strings.CutPrefix(s, "+")
	src, dst, two := strings.Cut(src, ":")
	if !two {
		dst = src
	}
	p := Spec{Force: force, Src: src, Dst: dst}
	if !p.valid() {
		return Spec{}, api.ErrForm
	}
	return p, api.OK
}

// valid needs not ask for the colon of an empty Src: without one, Dst is empty too.
func (p Spec) valid() bool {
	return (p.Src == "" || fits(p.Src)) && fits(p.Dst) && strings.Contains(p.Src, star) == strings.Contains(p.Dst, star)
}

// fits tells whether one side of a refspec is a valid name, or is one as soon as its star is a letter; of two stars one would stay.
func fits(s string) bool {
	return Valid(strings.Replace(s, star, "x", 1))
}

// Map tells the name that s is mapped to.
func Map(p Spec, s string) (string, bool) {
	to, ok := p.target(s)
	if !ok || !Valid(to) {
		return "", false
	}
	return to, true
}

// target tells the name that s is mapped to, valid or not.
func (p Spec) target(s string) (string, bool) {
	begin, end, pattern := strings.Cut(p.Src, star)
	if !pattern {
		return p.Dst, s == p.Src
	}
	rest, begins := strings.CutPrefix(s, begin)
	middle, ends := strings.CutSuffix(rest, end)
	if !begins || !ends || strings.Contains(end, star) || !strings.Contains(p.Dst, star) {
		return "", false
	}
	return strings.Replace(p.Dst, star, middle, 1), true
}

// Text writes a refspec so that Parse reads it.
func Text(p Spec) string {
	s := p.Src + ":" + p.Dst
	if p.Force {
		return "+" + s
	}
	return s
}
