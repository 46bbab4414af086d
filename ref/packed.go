package ref

import (
	"slices"
	"strings"

	"stemma/api"
	"stemma/name"
	"stemma/object"
)

const packedHead = "# pack-refs with: peeled fully-peeled sorted \n"

// Packed tells what packed-refs has for these refs.
func Packed(l []api.Ref) []byte {
	l = slices.Clone(l)
	slices.SortStableFunc(l, func(a, b api.Ref) int { return strings.Compare(a.Name, b.Name) })
	b := []byte(packedHead)
	for _, x := range l {
		b = append(b, x.ID...)
		b = append(b, ' ')
		b = append(b, x.Name...)
		b = append(b, lineEnd...)
	}
	return b
}

// Unpacked tells the refs for which packed-refs has b, ascending by name.
func Unpacked(b []byte) ([]api.Ref, api.Errno) {
	if len(b) == 0 {
		return nil, api.OK
	}
	lines, ok := strings.CutPrefix(string(b), packedHead)
	if !ok {
		return nil, api.ErrForm
	}
	var l []api.Ref
	for line := range strings.Lines(lines) {
		x, ok := readLine(line)
		if !ok || len(l) > 0 && l[len(l)-1].Name >= x.Name {
			return nil, api.ErrForm
		}
		l = append(l, x)
	}
	return l, api.OK
}

func readLine(line string) (api.Ref, bool) {
	id, rest, _ := strings.Cut(line, " ")
	s, ends := strings.CutSuffix(rest, lineEnd)
	return api.Ref{Name: s, ID: id}, ends && object.Hash(id) && name.Valid(s)
}

// find tells where the name is in l, or where it would be.
func find(l []api.Ref, s string) (int, bool) {
	return slices.BinarySearchFunc(l, s, func(x api.Ref, s string) int { return strings.Compare(x.Name, s) })
}
