package object

import (
	"strings"
	"unicode/utf8"
)

const mostInTime = 12

// Person tells whether s is a name, an address and a time, as commits and tags have them. Where a part is missing, the zone behind it is empty.
func Person(s string) bool {
	name, rest, _ := strings.Cut(s, " <")
	address, rest, _ := strings.Cut(rest, "> ")
	seconds, zone, _ := strings.Cut(rest, " ")
	return consists(name, inPerson) && consists(address, inPerson) && isTime(seconds) && isZone(zone)
}

func inPerson(c rune) bool {
	return c != '<' && c != '>' && c != '\n' && c != 0
}

func isTime(s string) bool {
	if s == "" || len(s) > mostInTime || len(s) > 1 && s[0] == '0' {
		return false
	}
	return consists(s, isDigit)
}

func isZone(s string) bool {
	return len(s) == 5 && (s[0] == '+' || s[0] == '-') && consists(s[1:], isDigit)
}

func isDigit(c rune) bool {
	return '0' <= c && c <= '9'
}

func isMessage(s string) bool {
	return consists(s, inMessage)
}

func inMessage(c rune) bool {
	return c != 0
}

// consists tells whether s is valid UTF-8 of such characters.
func consists(s string, such func(c rune) bool) bool {
	for _, c := range s {
		if !such(c) {
			return false
		}
	}
	return utf8.ValidString(s)
}

// differ tells whether no text stands twice in l.
func differ(l []string) bool {
	seen := make(map[string]struct{}, len(l))
	for _, s := range l {
		seen[s] = struct{}{}
	}
	return len(seen) == len(l)
}

func addLine(b []byte, word, s string) []byte {
	b = append(b, word...)
	b = append(b, s...)
	return append(b, '\n')
}

func addMessage(b []byte, message string) []byte {
	b = append(b, '\n')
	return append(b, message...)
}

// cutLine tells what the first line of text has behind word, and the text behind that line.
func cutLine(text, word string) (string, string) {
	line, rest, _ := strings.Cut(text, "\n")
	return strings.TrimPrefix(line, word), rest
}

func cutMessage(text string) string {
	return strings.TrimPrefix(text, "\n")
}
