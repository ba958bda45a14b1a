package match

import (
	"strconv"
	"strings"

	"inglenook/api"
)

// isPattern tells whether p is a name with a star somewhere, or without one, or a star alone.
func isPattern(p string) bool {
	ahead, behind, _ := strings.Cut(p, "*")
	return p == "*" || isName(ahead+behind)
}

func isName(s string) bool {
	if s == "" || len(s) > api.MaxName {
		return false
	}
	for i := range len(s) {
		switch c := s[i]; {
		case c >= 'a' && c <= 'z', c == '_':
		case c >= '0' && c <= '9' && i > 0:
		default:
			return false
		}
	}
	return true
}

// fits tells whether a pattern fits word. A star that has something behind it asks for one thing more than one that is last.
func fits(pattern, word string) bool {
	ahead, behind, star := strings.Cut(pattern, "*")
	switch {
	case star && behind != "":
		if !strings.HasPrefix(ahead+behind, word) {
			return false
		}
		fallthrough
	case star:
		return strings.HasPrefix(word, ahead)
	}
	return word == pattern
}

// number is the number that word says, written as an Obj is.
func number(word string) (int, bool) {
	digits, ok := strings.CutPrefix(word, "#")
	n, err := strconv.ParseInt(digits, 10, 32)
	// ParseInt lets pass what no value is written as: a + ahead, or zeros.
	if !ok || err != nil || strconv.FormatInt(n, 10) != digits {
		return 0, false
	}
	return int(n), true
}

// only is the ID of the things of which a name fits word: Ambiguous, if they have unlike ones; false, if there are none.
func only(l []Thing, word string, fits func(name, word string) bool) (int, bool) {
	id, found := 0, false
	for _, t := range l {
		if !named(t, word, fits) {
			continue
		}
		if found && t.ID != id {
			return Ambiguous, true
		}
		id, found = t.ID, true
	}
	return id, found
}

func named(t Thing, word string, fits func(name, word string) bool) bool {
	for _, name := range t.Names {
		if fits(name, word) {
			return true
		}
	}
	return false
}

// alike tells whether both are the same, letters without their case.
func alike(a, b string) bool { return len(a) == len(b) && begins(a, b) }

// begins tells whether name begins with word, letters without their case. It goes by bytes: the library's folding takes signs that are no letters of ASCII for such.
func begins(name, word string) bool {
	if len(name) < len(word) {
		return false
	}
	for i := range len(word) {
		if small(name[i]) != small(word[i]) {
			return false
		}
	}
	return true
}

func small(c byte) byte {
	if c >= 'A' && c <= 'Z' {
		c += 'a' - 'A'
	}
	return c
}
