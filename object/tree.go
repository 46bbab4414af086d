package object

import (
	"strings"

	"stemma/api"
	"stemma/sum"
)

// Modes of entries.
const (
	modeFile    = "100644"
	modeProgram = "100755"
	modeSymlink = "120000"
	modeFolder  = "40000"
	modeModule  = "160000" // a commit of another repository
)

const noID = "0000000000000000000000000000000000000000"

// Tree is the entries of a folder.
type Tree struct{ L []api.Entry }

// Kind tells api.KTree.
func (t Tree) Kind() int {
	return api.KTree
}

// Bytes tells the body.
func (t Tree) Bytes() []byte {
	var b []byte
	for _, e := range t.L {
		b = append(b, e.Mode...)
		b = append(b, ' ')
		b = append(b, e.Name...)
		b = append(b, 0)
		b = append(b, idBytes(e.ID)...)
	}
	return b
}

// idBytes tells twenty bytes, which are zeros if id is not a Hash.
func idBytes(id string) []byte {
	if !Hash(id) {
		id = noID
	}
	b, _ := sum.Unhex(id)
	return b
}

// Links tells what the entries refer to. Commits of other repositories need not be there.
func (t Tree) Links() []api.Link {
	var l []api.Link
	for _, e := range t.L {
		switch e.Mode {
		case modeFolder:
			l = append(l, api.Link{ID: e.ID, Kind: api.KTree})
		case modeModule:
		default:
			l = append(l, api.Link{ID: e.ID, Kind: api.KBlob})
		}
	}
	return l
}

// Less tells whether entry a stands before b: a folder as if its name ended with a slash.
func Less(a, b api.Entry) bool {
	return sortName(a) < sortName(b)
}

func sortName(e api.Entry) string {
	if e.Mode == modeFolder {
		return e.Name + "/"
	}
	return e.Name
}

// readTree reads an entry as long as there are bytes; each takes at least one.
func readTree(text string) Tree {
	var t Tree
	for text != "" {
		var e api.Entry
		e.Mode, text, _ = strings.Cut(text, " ")
		e.Name, text, _ = strings.Cut(text, "\x00")
		n := min(idSize, len(text))
		e.ID = sum.Hex([]byte(text[:n]))
		text = text[n:]
		t.L = append(t.L, e)
	}
	return t
}

func (t Tree) valid() bool {
	names := make([]string, len(t.L))
	for i, e := range t.L {
		names[i] = e.Name
		if !isMode(e.Mode) || !isEntryName(e.Name) || !Hash(e.ID) || e.ID == noID {
			return false
		}
		if i > 0 && !Less(t.L[i-1], e) {
			return false
		}
	}
	return differ(names) // a file and a folder of one name may stand apart
}

func isMode(s string) bool {
	switch s {
	case modeFile, modeProgram, modeSymlink, modeFolder, modeModule:
		return true
	}
	return false
}

func isEntryName(s string) bool {
	switch s {
	case "", ".", "..":
		return false
	}
	return !strings.EqualFold(s, ".git") && consists(s, inEntryName)
}

func inEntryName(c rune) bool {
	return c != '/' && c != 0
}
