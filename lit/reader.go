package lit

import (
	"math"

	"inglenook/api"
)

// reader goes through a text from its beginning. A byte that doesn't fit is not passed, so that pos is the place of the fault, where there is one.
type reader struct {
	s       string
	pos     int
	open    []api.Value // lists that are not ended yet, the innermost last
	skipped int         // lists within these, not ended yet either, that are not made
	made    int         // values that were made
	whole   api.Value
}

// all reads one value, and that nothing stands behind it. It has no function call a level: a text may nest lists as deep as it is long.
func (r *reader) all() bool {
	for r.item() {
		for r.inList() && r.pass('}') {
			r.end()
		}
		if !r.inList() {
			return r.pos == len(r.s)
		}
		if !r.pass(',') || !r.pass(' ') {
			return false
		}
	}
	return false
}

// item reads the beginnings of lists that stand here, and then what is no list; but nothing, if the innermost one is empty.
func (r *reader) item() bool {
	begun := false
	for r.pass('{') {
		r.begin()
		begun = true
	}
	return begun && r.next() == '}' || r.single()
}

// single reads a value that is no list.
func (r *reader) single() bool {
	v, most, ok := api.Value{}, uint64(math.MaxInt64), false
	switch c := r.next(); {
	case c == '"':
		r.pos++
		v.Kind = api.Str
		v.S, ok = r.quoted()
	case c == '#':
		r.pos++
		v.Kind, most = api.Obj, math.MaxInt32
		fallthrough
	case c == '-' || isDigit(c):
		v.N, ok = r.number(most)
	default:
		v.Kind = api.Err
		v.N, ok = r.code()
	}
	if ok && r.room() {
		r.made++
		r.add(v)
	}
	return ok
}

// quoted reads a Str behind its first quote, up to its last one.
func (r *reader) quoted() (string, bool) {
	var b []byte
	for {
		c := r.next()
		switch {
		case c < 32 || c > 126:
			return "", false
		case c == '"':
			r.pos++
			return string(b), true
		case c == '\\':
			r.pos++
			if c = r.next(); c != '"' && c != '\\' {
				return "", false
			}
			fallthrough
		default:
			b = append(b, c)
			r.pos++
		}
	}
}

// number reads a number that is not above most, and not below -most - 1.
func (r *reader) number(most uint64) (int64, bool) {
	if r.pass('0') {
		return 0, true
	}
	minus := r.pass('-')
	if minus {
		most++
	}
	if c := r.next(); c == '0' || !isDigit(c) {
		return 0, false
	}
	n := uint64(0)
	for isDigit(r.next()) {
		d := uint64(r.next() - '0')
		if n > (most-d)/10 {
			return 0, false
		}
		n = n*10 + d
		r.pos++
	}
	if minus {
		n = -n
	}
	return int64(n), true
}

// code reads the name of a code. Where none stands it goes on as far as one of them does.
func (r *reader) code() (int64, bool) {
	far := 0
	for code, name := range names {
		n := alike(r.s[r.pos:], name)
		if n == len(name) {
			r.pos += n
			return int64(code), true
		}
		far = max(far, n)
	}
	r.pos += far
	return 0, false
}

// alike is with how many bytes both begin.
func alike(a, b string) int {
	n := 0
	for n < len(a) && n < len(b) && a[n] == b[n] {
		n++
	}
	return n
}

// next is the byte at pos; at the end 0, that stands in no text.
func (r *reader) next() byte {
	if r.pos == len(r.s) {
		return 0
	}
	return r.s[r.pos]
}

// pass goes behind the next byte, if it is c.
func (r *reader) pass(c byte) bool {
	if r.next() != c {
		return false
	}
	r.pos++
	return true
}

func isDigit(c byte) bool { return c >= '0' && c <= '9' }

func (r *reader) inList() bool { return len(r.open) > 0 }

// room tells whether the value that begins here is made. What lies behind MaxSize values and one more is not: val.Valid doesn't get to it, and a text that is far too great, or too deep, shall take little more memory than its own.
func (r *reader) room() bool { return r.made <= api.MaxSize }

// begin begins a list.
func (r *reader) begin() {
	if !r.room() {
		r.skipped++
		return
	}
	r.made++
	r.open = append(r.open, api.Value{Kind: api.List})
}

// end ends the innermost list.
func (r *reader) end() {
	if r.skipped > 0 {
		r.skipped--
		return
	}
	last := len(r.open) - 1
	v := r.open[last]
	r.open = r.open[:last]
	r.add(v)
}

// add lays a value that was made into the innermost list; behind all lists it is the whole.
func (r *reader) add(v api.Value) {
	last := len(r.open) - 1
	if last < 0 {
		r.whole = v
		return
	}
	r.open[last].L = append(r.open[last].L, v)
}
