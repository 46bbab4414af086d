package object

import (
	"unicode/utf8"

	"stemma/api"
)

// Words at the beginning of a tag's lines.
const (
	wordObject = "object "
	wordType   = "type "
	wordTag    = "tag "
	wordTagger = "tagger "
)

const mostInTagName = 100

// Tag is a lasting name of an object.
type Tag struct {
	Object  string
	Type    int
	Name    string
	Tagger  string
	Message string
}

// Kind tells api.KTag.
func (t Tag) Kind() int {
	return api.KTag
}

// Bytes tells the body.
func (t Tag) Bytes() []byte {
	b := addLine(nil, wordObject, t.Object)
	b = addLine(b, wordType, Name(t.Type))
	b = addLine(b, wordTag, t.Name)
	b = addLine(b, wordTagger, t.Tagger)
	return addMessage(b, t.Message)
}

// Links tells the object that is named.
func (t Tag) Links() []api.Link {
	return []api.Link{{ID: t.Object, Kind: t.Type}}
}

func readTag(text string) Tag {
	var t Tag
	var kind string
	t.Object, text = cutLine(text, wordObject)
	kind, text = cutLine(text, wordType)
	t.Type, _ = Kind(kind)
	t.Name, text = cutLine(text, wordTag)
	t.Tagger, text = cutLine(text, wordTagger)
	t.Message = cutMessage(text)
	return t
}

func (t Tag) valid() bool {
	return Hash(t.Object) && Name(t.Type) != "" && isTagName(t.Name) && Person(t.Tagger) && isMessage(t.Message)
}

func isTagName(s string) bool {
	return s != "" && consists(s, inTagName) && utf8.RuneCountInString(s) <= mostInTagName
}

func inTagName(c rune) bool {
	return c >= ' ' && c != 127
}
