package loose

import (
	"bytes"
	"strings"

	"stemma/api"
	"stemma/deflate"
	"stemma/inflate"
	"stemma/object"
)

const (
	level      = 2
	mostInHead = 32
)

// File tells what the file of an object has.
func File(kind int, body []byte) []byte {
	return deflate.Zlib(append(object.Header(kind, len(body)), body...), level)
}

// Parse tells the object whose file has b.
func Parse(b []byte) (kind int, body []byte, e api.Errno) {
	text, used, e := inflate.Zlib(b, api.MaxObject+mostInHead)
	if e != api.OK {
		return 0, nil, e
	}
	head, body, ended := bytes.Cut(text, []byte{0})
	kind, ok := kindIn(string(head), len(body))
	if !ok || !ended || used != len(b) {
		return 0, nil, api.ErrForm
	}
	if len(body) > api.MaxObject {
		return 0, nil, api.ErrBig
	}
	return kind, body, api.OK
}

// kindIn tells the kind of which head, with a byte 0, is the Header for this size.
func kindIn(head string, size int) (int, bool) {
	name, digits, _ := strings.Cut(head, " ")
	kind, ok := object.Kind(name)
	return kind, ok && writes(digits, size)
}

// writes tells whether digits are how n is written. The number that they make is given up once it is above n, since it has no bound otherwise.
func writes(digits string, n int) bool {
	made := 0
	for i, c := range digits {
		if c < '0' || c > '9' || i > 0 && made == 0 {
			return false
		}
		made = 10*made + int(c-'0')
		if made > n {
			return false
		}
	}
	return digits != "" && made == n
}
