package object

import (
	"strings"

	"stemma/api"
)

// Words at the beginning of a commit's lines.
const (
	wordTree      = "tree "
	wordParent    = "parent "
	wordAuthor    = "author "
	wordCommitter = "committer "
)

// Commit is a tree with what it came from.
type Commit struct {
	Tree              string
	Parents           []string
	Author, Committer string
	Message           string
}

// Kind tells api.KCommit.
func (c Commit) Kind() int {
	return api.KCommit
}

// Bytes tells the body.
func (c Commit) Bytes() []byte {
	b := addLine(nil, wordTree, c.Tree)
	for _, p := range c.Parents {
		b = addLine(b, wordParent, p)
	}
	b = addLine(b, wordAuthor, c.Author)
	b = addLine(b, wordCommitter, c.Committer)
	return addMessage(b, c.Message)
}

// Links tells the tree, and then the parents.
func (c Commit) Links() []api.Link {
	l := []api.Link{{ID: c.Tree, Kind: api.KTree}}
	for _, p := range c.Parents {
		l = append(l, api.Link{ID: p, Kind: api.KCommit})
	}
	return l
}

func readCommit(text string) Commit {
	var c Commit
	c.Tree, text = cutLine(text, wordTree)
	for strings.HasPrefix(text, wordParent) {
		var p string
		p, text = cutLine(text, wordParent)
		c.Parents = append(c.Parents, p)
	}
	c.Author, text = cutLine(text, wordAuthor)
	c.Committer, text = cutLine(text, wordCommitter)
	c.Message = cutMessage(text)
	return c
}

func (c Commit) valid() bool {
	for _, p := range c.Parents {
		if !Hash(p) {
			return false
		}
	}
	return Hash(c.Tree) && differ(c.Parents) && Person(c.Author) && Person(c.Committer) && isMessage(c.Message)
}
