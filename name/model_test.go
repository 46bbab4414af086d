package name_test

import (
	"regexp"
	"strings"

	"stemma/api"
	"stemma/name"
)

// The models go by the chapter's words, and by other means than the program: expressions, lists of parts, and trying out.

var (
	excluded = regexp.MustCompile(`[\x00-\x20\x7f~^:?*\[\\]`)
	refspec  = regexp.MustCompile(`(?s)^(\+?)([^:]*)(:?)(.*)$`)
)

func modelValid(s string) bool {
	if len(s) > 100 || !strings.HasPrefix(s, "refs/") || string([]rune(s)) != s || excluded.MatchString(s) {
		return false
	}
	parts := strings.Split(s, "/")
	if len(parts) < 2 {
		return false
	}
	for _, p := range parts {
		if p == "" || strings.HasPrefix(p, ".") || strings.HasSuffix(p, ".lock") {
			return false
		}
	}
	return !strings.Contains(s, "..") && !strings.Contains(s, "@{") && !strings.HasSuffix(s, ".")
}

func modelUnder(a, b string) bool {
	for i := range b {
		if b[i] == '/' && b[:i] == a {
			return true
		}
	}
	return false
}

func stars(s string) int {
	return strings.Count(s, "*")
}

// modelSide tells whether s is a Src or Dst that isn't empty.
func modelSide(s string) bool {
	return modelValid(s) || stars(s) == 1 && modelValid(strings.ReplaceAll(s, "*", "x"))
}

func modelParse(s string) (name.Spec, api.Errno) {
	m := refspec.FindStringSubmatch(s)
	p := name.Spec{Force: m[1] == "+", Src: m[2], Dst: m[4]}
	if m[3] == "" {
		p.Dst = p.Src
	}
	switch {
	case p.Src == "" && m[3] == "", p.Dst == "":
	case p.Src != "" && !modelSide(p.Src), !modelSide(p.Dst):
	case stars(p.Src) != stars(p.Dst):
	default:
		return p, api.OK
	}
	return name.Spec{}, api.ErrForm
}

// modelMap tries every piece of s in the place of the star.
func modelMap(p name.Spec, s string) (string, bool) {
	if stars(p.Src) == 0 {
		return onlyValid(p.Dst, s == p.Src)
	}
	if stars(p.Src) > 1 || stars(p.Dst) != 1 {
		return "", false
	}
	for i := range len(s) + 1 {
		for j := i; j <= len(s); j++ {
			if strings.ReplaceAll(p.Src, "*", s[i:j]) == s {
				return onlyValid(strings.ReplaceAll(p.Dst, "*", s[i:j]), true)
			}
		}
	}
	return "", false
}

func onlyValid(s string, ok bool) (string, bool) {
	if !ok || !modelValid(s) {
		return "", false
	}
	return s, true
}
