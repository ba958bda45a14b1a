package parse_test

import (
	"math/rand"
	"strconv"
	"strings"
	"testing"

	"inglenook/api"
	"inglenook/parse"
	"inglenook/show"
	"inglenook/tree"
	"inglenook/val"
)

// writer writes programs by chance, word by word, each with the nodes that it has to be. The line of a node is the number of its word.
type writer struct {
	*rand.Rand
	words []string
}

// put writes words, and tells the number of the first one.
func (w *writer) put(words ...string) int {
	w.words = append(w.words, words...)
	return len(w.words) - len(words) + 1
}

// line is the number of the word that will be written next.
func (w *writer) line() int { return len(w.words) + 1 }

func (w *writer) chance(of int) bool { return w.Intn(of) == 0 }

func (w *writer) pick(s string) string {
	l := strings.Fields(s)
	return l[w.Intn(len(l))]
}

// The levels of an expression, from what binds least.
const (
	whole = iota
	cond
	or
	and
	same
	sum
	product
	ahead
	behind
	first
)

func ops() map[string]int {
	return map[string]int{"||": api.Or, "&&": api.And, "==": api.Eq, "!=": api.Ne, "<": api.Lt, "<=": api.Le, ">": api.Gt, ">=": api.Ge, "in": api.In,
		"+": api.Add, "-": api.Sub, "*": api.Mul, "/": api.Div, "%": api.Mod}
}

// expr writes an expression of a level, or of one that binds more; deep is how much deeper it may become.
func (w *writer) expr(level, deep int) api.Node {
	switch {
	case level == first:
		return w.first(deep)
	case deep <= 0 || w.chance(2):
		return w.expr(level+1, deep)
	case level == whole:
		return w.set(deep - 1)
	case level == cond:
		n := w.expr(or, deep-1)
		w.put("?")
		then := w.expr(cond, deep-1)
		w.put("|")
		return node(n.Line, api.Cond, n, then, w.expr(cond, deep-1))
	case level == ahead:
		return w.ahead(deep - 1)
	case level == behind:
		return w.behind(deep - 1)
	}
	n := w.expr(level, deep-1)
	sign := w.pick(strings.Join(levels()[level-or], " "))
	w.put(sign)
	return node(n.Line, ops()[sign], n, w.expr(level+1, deep-1))
}

func (w *writer) set(deep int) api.Node {
	if w.chance(2) {
		n := w.target(deep)
		w.put("=")
		return node(n.Line, api.Set, n, w.expr(whole, deep))
	}
	line := w.put("{")
	var l nodes
	for range 1 + w.Intn(3) {
		if len(l) > 0 {
			w.put(",")
		}
		l = append(l, w.bare())
	}
	if w.chance(3) {
		w.put(",")
		l = append(l, node(w.put("@"), api.Splice, w.bare()))
	}
	w.put("}", "=")
	return node(line, api.Scatter, append(l, w.expr(whole, deep))...)
}

// bare writes a Var, perhaps in brackets.
func (w *writer) bare() api.Node {
	if w.chance(9) {
		w.put("(")
		defer w.put(")")
	}
	s := w.pick("a b x")
	return variable(w.put(s), s)
}

func (w *writer) target(deep int) api.Node {
	switch {
	case w.chance(2) && deep > 0:
		n := w.target(deep - 1)
		w.put("[")
		n = node(n.Line, api.Index, n, w.expr(whole, deep-1))
		w.put("]")
		return n
	case w.chance(2):
		return w.prop(deep)
	}
	return w.bare()
}

func (w *writer) prop(deep int) api.Node {
	n := w.expr(behind, deep-1)
	w.put(".")
	return node(n.Line, api.Prop, n, w.name(deep))
}

// name writes that of a Prop or of a Call.
func (w *writer) name(deep int) api.Node {
	if w.chance(3) {
		w.put("(")
		n := w.expr(whole, deep-1)
		w.put(")")
		return n
	}
	s := w.pick("a b x")
	return text(w.put(s), s)
}

func (w *writer) ahead(deep int) api.Node {
	if w.chance(2) {
		return node(w.put("!"), api.Not, w.expr(ahead, deep))
	}
	line := w.put("-")
	n := w.expr(ahead, deep)
	if begin := w.words[line][0]; begin >= '0' && begin <= '9' {
		// It would be a literal.
		w.words = w.words[:line]
		n = w.bare()
	}
	return node(line, api.Neg, n)
}

func (w *writer) behind(deep int) api.Node {
	if w.chance(4) {
		return w.prop(deep)
	}
	n := w.expr(behind, deep)
	if w.chance(2) {
		w.put(":")
		l := nodes{n, w.name(deep)}
		w.put("(")
		return node(n.Line, api.Call, append(l, w.items(")", deep)...)...)
	}
	w.put("[")
	defer w.put("]")
	l := nodes{n, w.expr(whole, deep)}
	if w.chance(2) {
		return node(n.Line, api.Index, l...)
	}
	w.put("..")
	return node(n.Line, api.Slice, append(l, w.expr(whole, deep))...)
}

func (w *writer) items(end string, deep int) nodes {
	var l nodes
	for range w.Intn(3) {
		if len(l) > 0 {
			w.put(",")
		}
		if w.chance(3) {
			l = append(l, node(w.put("@"), api.Splice, w.expr(whole, deep)))
		} else {
			l = append(l, w.expr(whole, deep))
		}
	}
	w.put(end)
	return l
}

func (w *writer) codes(deep int) api.Node {
	n := node(w.line(), api.Make)
	for range w.Intn(3) {
		if len(n.L) > 0 {
			w.put(",")
		}
		n.L = append(n.L, w.expr(whole, deep))
	}
	if len(n.L) == 0 {
		w.put("any")
	}
	return n
}

func (w *writer) first(deep int) api.Node {
	if deep <= 0 {
		return w.leaf()
	}
	deep--
	switch w.Intn(8) {
	case 0:
		w.put("(")
		defer w.put(")")
		return w.expr(whole, deep)
	case 1:
		line := w.put("{")
		return node(line, api.Make, w.items("}", deep)...)
	case 2:
		s := w.pick("f g")
		line := w.put(s, "(")
		return named(line, api.Fun, s, w.items(")", deep)...)
	case 3:
		line := w.put("`")
		defer w.put("'")
		n := w.expr(whole, deep)
		w.put("!")
		l := nodes{n, w.codes(deep)}
		if w.chance(2) {
			w.put("=>")
			l = append(l, w.expr(whole, deep))
		}
		return node(line, api.Catch, l...)
	case 4:
		line := w.put("$", "x")
		return node(line, api.Prop, literal(line, val.O(0)), text(line+1, "x"))
	}
	return w.leaf()
}

func (w *writer) leaf() api.Node {
	switch w.Intn(7) {
	case 0:
		n := w.Int63() >> w.Intn(63)
		return number(w.put(strconv.FormatInt(n, 10)), n)
	case 1:
		n := w.Int63() >> w.Intn(63)
		return number(w.put("-", strconv.FormatInt(n, 10)), -n)
	case 2:
		n := int(int32(w.Uint32()))
		return literal(w.put("#"+strconv.Itoa(n)), val.O(n))
	case 3:
		return text(w.put(`"s\\"`), `s\`)
	case 4:
		return literal(w.put("E_PERM"), val.E(api.EPerm))
	}
	return w.bare()
}

// block has the line of its first word.
func (w *writer) block(deep int, inLoop bool) api.Node {
	line := w.line()
	l := w.statements(deep, inLoop)
	if len(l) == 0 {
		line = 0
	}
	return node(line, api.Block, l...)
}

func (w *writer) statements(deep int, inLoop bool) nodes {
	var l nodes
	for range w.Intn(3) {
		l = append(l, w.statement(deep, inLoop))
	}
	return l
}

// bracketed writes an expression in brackets.
func (w *writer) bracketed(deep int) api.Node {
	w.put("(")
	defer w.put(")")
	return w.expr(whole, deep)
}

func (w *writer) statement(deep int, inLoop bool) api.Node {
	line := w.line()
	deep--
	switch w.Intn(12) * min(deep+1, 1) {
	case 1:
		w.put("if")
		l := nodes{w.bracketed(deep), w.block(deep, inLoop)}
		for range w.Intn(3) {
			w.put("elseif")
			l = append(l, w.bracketed(deep), w.block(deep, inLoop))
		}
		if w.chance(2) {
			w.put("else")
			l = append(l, w.block(deep, inLoop))
		}
		w.put("endif")
		return node(line, api.If, l...)
	case 2:
		w.put("for", "x", "in")
		l := nodes{w.bracketed(deep), w.block(deep, true)}
		w.put("endfor")
		return named(line, api.ForIn, "x", l...)
	case 3:
		w.put("for", "y", "in", "[")
		l := nodes{w.expr(whole, deep)}
		w.put("..")
		l = append(l, w.expr(whole, deep))
		w.put("]")
		l = append(l, w.block(deep, true))
		w.put("endfor")
		return named(line, api.ForTo, "y", l...)
	case 4:
		w.put("while")
		l := nodes{w.bracketed(deep), w.block(deep, true)}
		w.put("endwhile")
		return node(line, api.While, l...)
	case 5:
		w.put("fork")
		l := nodes{w.bracketed(deep), w.block(deep, false)}
		w.put("endfork")
		return node(line, api.Fork, l...)
	case 6, 7:
		return w.try(deep, inLoop)
	case 8:
		if inLoop {
			op := w.Intn(2)
			w.put([]string{"break", "continue"}[op], ";")
			return node(line, api.Break+op)
		}
	case 9:
		w.put("return", ";")
		return node(line, api.Return)
	case 10:
		w.put("return")
		defer w.put(";")
		return node(line, api.Return, w.expr(whole, deep+1))
	}
	defer w.put(";")
	return node(line, api.Do, w.expr(whole, deep+1))
}

func (w *writer) try(deep int, inLoop bool) api.Node {
	line := w.put("try")
	l := nodes{w.block(deep, inLoop)}
	if w.chance(2) {
		w.put("finally")
		l = append(l, w.block(deep, inLoop))
		w.put("endtry")
		return node(line, api.Finally, l...)
	}
	for range 1 + w.Intn(2) {
		x := node(w.put("except"), api.Except)
		if w.chance(2) {
			x.S = w.pick("e any_ x")
			w.put(x.S)
		}
		w.put("(")
		x.L = nodes{w.codes(deep)}
		w.put(")")
		x.L = append(x.L, w.block(deep, inLoop))
		l = append(l, x)
	}
	w.put("endtry")
	return node(line, api.Try, l...)
}

// spread puts words on lines by chance, and tells the line of each one, from 1 on.
func (w *writer) spread() (string, []int) {
	var s strings.Builder
	lines, line := []int{0}, 1
	for _, word := range w.words {
		for w.chance(3) {
			s.WriteByte('\n')
			line++
		}
		s.WriteString(strings.Repeat(" ", 1+w.Intn(2)) + word)
		lines = append(lines, line)
	}
	return s.String(), lines
}

// P9.1, P9.2: programs by chance, on lines by chance: what they have to be; shown, and made of that again; the text of that is always the same.
func TestChance(t *testing.T) {
	r := rand.New(rand.NewSource(99))
	for range 3000 {
		w := writer{Rand: r}
		want := w.statements(r.Intn(5), false)
		if err := tree.Valid(want...); err == api.ErrMany || err == api.ErrDeep {
			continue
		}
		program(t, strings.Join(w.words, "\n"), want...)
		s, lines := w.spread()
		for i, n := range want {
			want[i] = lined(n, func(line int) int { return lines[line] })
		}
		program(t, s, want...)
		back(t, want)
	}
}

// back asks for what is shown to be what was shown.
func back(t *testing.T, l nodes) {
	t.Helper()
	s, err := show.Program(l...)
	if err != nil {
		t.Fatal(err)
	}
	again, err := parse.Program(s)
	if err != nil || !tree.Same(again, l) {
		t.Errorf("%s is another one again: %v, %v", s, again, err)
	}
	if s2, err := show.Program(again...); s2 != s || err != nil {
		t.Errorf("%s is shown as %s, %v", s, s2, err)
	}
	for n := range tree.Each(l...) {
		if tree.Expr(n) != nil {
			continue
		}
		s, err := show.Expr(n)
		again, err2 := parse.Expr(s)
		if err != nil || err2 != nil || !tree.Same(nodes{n}, nodes{again}) {
			t.Errorf("%s is another one again: %v, %v, %v", s, again, err, err2)
		}
	}
}
