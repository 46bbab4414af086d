package object

import "stemma/api"

// Blob is the bytes of a file.
type Blob struct{ Data []byte }

// Kind tells api.KBlob.
func (b Blob) Kind() int {
	return api.KBlob
}

// Bytes tells the body.
func (b Blob) Bytes() []byte {
	return copied(b.Data)
}

// Links tells nothing, since a blob refers to nothing.
func (b Blob) Links() []api.Link {
	return nil
}

func (b Blob) valid() bool {
	return true
}

// copied tells nil for nothing, so that blobs of nothing are all equal.
func copied(b []byte) []byte {
	return append([]byte(nil), b...)
}
