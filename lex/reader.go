package lex

import (
	"strings"

	"inglenook/api"
	"inglenook/lit"
)

// reader goes through a text word by word. No word goes over the end of a line, so that line is that of the word at pos, also where none begins there.
type reader struct {
	s         string
	pos, line int
}

// begins goes to where the next word begins, and tells whether there is one.
func (r *reader) begins() bool {
	for r.pos < len(r.s) {
		switch r.next() {
		case '\n':
			r.line++
			fallthrough
		case ' ':
			r.pos++
		default:
			return true
		}
	}
	return false
}

// word reads the word that begins at pos.
func (r *reader) word() (Token, error) {
	t := Token{Kind: Lit, Line: r.line}
	begin, minus, ok := r.pos, false, false
	switch c := r.next(); {
	case c == '"':
		t.V.Kind = api.Str
		t.V.S, ok = r.quoted()
	case c == '#':
		r.pos++
		minus = r.pass('-')
		fallthrough
	case isDigit(c):
		digits := r.run()
		if !areDigits(digits) || minus && digits == "0" {
			return Token{}, api.ErrSyntax
		}
		// What is left to be wrong with it is its range.
		v, err := lit.Read(r.s[begin:r.pos])
		if err != nil {
			return Token{}, api.ErrRange
		}
		t.V, ok = v, true
	case isCapital(c):
		code, is := lit.Code(r.run())
		t.V, ok = api.Value{Kind: api.Err, N: int64(code)}, is
	case isSmall(c) || c == '_':
		t.S = r.run()
		t.Kind, ok = kindOf(t.S)
	default:
		t.Kind = Sign
		t.S, ok = r.sign()
	}
	if !ok {
		return Token{}, api.ErrSyntax
	}
	return t, nil
}

// run passes all letters, digits and _ that stand here. None may stand directly behind a word that ends with such ones, so the word is all of the run, or there is none.
func (r *reader) run() string {
	begin := r.pos
	for isOfRun(r.next()) {
		r.pos++
	}
	return r.s[begin:r.pos]
}

// quoted reads a Str, from its first quote up to its last one.
func (r *reader) quoted() (string, bool) {
	var b []byte
	for {
		r.pos++
		c := r.next()
		switch {
		case c < 32 || c > 126:
			return "", false
		case c == '"':
			r.pos++
			return string(b), true
		case c == '\\':
			r.pos++
			if c = r.next(); c != '"' && c != '\\' {
				return "", false
			}
			fallthrough
		default:
			b = append(b, c)
		}
	}
}

// sign reads the longest sign that stands here: the last one of those that fit.
func (r *reader) sign() (string, bool) {
	longest := ""
	for _, sign := range signs {
		if strings.HasPrefix(r.s[r.pos:], sign) {
			longest = sign
		}
	}
	r.pos += len(longest)
	return longest, longest != ""
}

// next is the byte at pos; at the end 0, that stands in no word.
func (r *reader) next() byte {
	if r.pos == len(r.s) {
		return 0
	}
	return r.s[r.pos]
}

// pass goes behind the next byte, if it is c.
func (r *reader) pass(c byte) bool {
	if r.next() != c {
		return false
	}
	r.pos++
	return true
}

// kindOf is what a run is that begins with no digit and no capital; false, if it is neither a key nor a name.
func kindOf(run string) (int, bool) {
	for _, key := range keys {
		if run == key {
			return Key, true
		}
	}
	for i := range len(run) {
		if isCapital(run[i]) {
			return 0, false
		}
	}
	return Name, len(run) <= api.MaxName
}

// areDigits tells whether a run is digits, with no 0 ahead of others.
func areDigits(run string) bool {
	for i := range len(run) {
		if !isDigit(run[i]) {
			return false
		}
	}
	return run == "0" || run != "" && run[0] != '0'
}

func isOfRun(c byte) bool { return isSmall(c) || isCapital(c) || isDigit(c) || c == '_' }

func isSmall(c byte) bool { return c >= 'a' && c <= 'z' }

func isCapital(c byte) bool { return c >= 'A' && c <= 'Z' }

func isDigit(c byte) bool { return c >= '0' && c <= '9' }
