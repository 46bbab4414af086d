package ref

import (
	"slices"
	"strings"

	"stemma/api"
	"stemma/name"
	"stemma/object"
)

const noID = "0000000000000000000000000000000000000000"

// change is what becomes of a ref, whatever it was: it is set, or deleted.
type change interface {
	// of tells the name of the ref.
	of() string
}

type set api.Ref

type deleted struct{ name string }

func (c set) of() string     { return c.Name }
func (c deleted) of() string { return c.name }

// changesOf tells what becomes of the refs that l changes.
func changesOf(l []api.Change) []change {
	var changes []change
	for _, c := range l {
		if c.New == "" {
			changes = append(changes, deleted{c.Name})
		} else {
			changes = append(changes, set{c.Name, c.New})
		}
	}
	return changes
}

// after tells the refs of l as they are after the changes, ascending by name. The refs themselves stand behind the changes as if they were set there: of all that stands for one name the first holds.
func after(l []api.Ref, changes []change) []api.Ref {
	all := slices.Clone(changes)
	for _, x := range l {
		all = append(all, set(x))
	}
	slices.SortStableFunc(all, func(a, b change) int { return strings.Compare(a.of(), b.of()) })
	all = slices.CompactFunc(all, func(a, b change) bool { return a.of() == b.of() })
	var refs []api.Ref
	for _, c := range all {
		if x, ok := c.(set); ok {
			refs = append(refs, api.Ref(x))
		}
	}
	return refs
}

// firstWrong tells the first change of l that isn't a change by itself, or is one of a ref that l has changed already; -1 if there is none.
func firstWrong(l []api.Change) int {
	seen := map[string]struct{}{}
	return slices.IndexFunc(l, func(c api.Change) bool {
		_, again := seen[c.Name]
		seen[c.Name] = struct{}{}
		return again || !formed(c)
	})
}

func formed(c api.Change) bool {
	return name.Valid(c.Name) && (c.Old == "" || object.Hash(c.Old)) && (c.New == "" || object.Hash(c.New) && c.New != noID)
}

// firstStale tells the first change of l that these refs, which ascend by name, don't have the Old of; -1 if there is none.
func firstStale(refs []api.Ref, l []api.Change) int {
	return slices.IndexFunc(l, func(c api.Change) bool {
		i, ok := find(refs, c.Name)
		switch c.Old {
		case "":
			return false
		case noID:
			return ok
		}
		return !ok || refs[i].ID != c.Old
	})
}

// firstUnder tells the first change of l that sets a ref under one of these, which ascend by name, or above one; -1 if there is none.
func firstUnder(refs []api.Ref, l []api.Change) int {
	return slices.IndexFunc(l, func(c api.Change) bool {
		return c.New != "" && (isAbove(refs, c.Name) || isUnder(refs, c.Name))
	})
}

// isAbove needs to look at one ref only: those under s stand behind one another.
func isAbove(refs []api.Ref, s string) bool {
	i, _ := find(refs, s+"/")
	return i < len(refs) && name.Under(s, refs[i].Name)
}

func isUnder(refs []api.Ref, s string) bool {
	for at, c := range s {
		if c != '/' {
			continue
		}
		if _, ok := find(refs, s[:at]); ok {
			return true
		}
	}
	return false
}
