package show_test

import (
	"math/rand"
	"reflect"
	"slices"
	"strings"
	"testing"

	"inglenook/api"
	"inglenook/lex"
	"inglenook/show"
	"inglenook/tree"
	"inglenook/val"
)

// reader reads a text back by the language of chapter 9 alone, so that the tests of what is shown don't hang on package parse. It panics at what is no program.
type reader struct {
	words []lex.Token
	at    int
}

func readBack(t *testing.T, s string) nodes {
	t.Helper()
	words, err := lex.All(s)
	if err != nil {
		t.Fatalf("%q: %v", s, err)
	}
	r := &reader{words: words}
	l := r.statements()
	if r.at < len(words) {
		t.Fatalf("%q: more behind the program", s)
	}
	return l
}

// next is the text of the next word; a literal has none, and the end neither.
func (r *reader) next() string {
	if r.at < len(r.words) {
		return r.words[r.at].S
	}
	return ""
}

func (r *reader) kind() int {
	if r.at < len(r.words) {
		return r.words[r.at].Kind
	}
	return 0
}

func (r *reader) line() int {
	if r.at < len(r.words) {
		return r.words[r.at].Line
	}
	return 0
}

func (r *reader) has(s string) bool {
	found := r.next() == s
	if found {
		r.at++
	}
	return found
}

func (r *reader) want(s string) {
	if !r.has(s) {
		panic("no " + s + " but " + r.next())
	}
}

func (r *reader) name() string {
	if r.kind() != lex.Name {
		panic("no name")
	}
	r.at++
	return r.words[r.at-1].S
}

func (r *reader) statements() nodes {
	var l nodes
	for r.at < len(r.words) && !slices.Contains(strings.Fields("elseif else endif endfor endwhile endfork except finally endtry"), r.next()) {
		l = append(l, r.statement())
	}
	return l
}

// block has no line: which one it has where there is no word in it, chapter 8 doesn't tell.
func (r *reader) block() api.Node { return api.Node{Op: api.Block, L: r.statements()} }

func (r *reader) bracketed() api.Node {
	r.want("(")
	n := r.expr()
	r.want(")")
	return n
}

func (r *reader) statement() api.Node {
	line := r.line()
	made := func(op int, s string, l ...api.Node) api.Node { return api.Node{Op: op, Line: line, S: s, L: l} }
	switch {
	case r.has("break"):
		r.want(";")
		return made(api.Break, "")
	case r.has("continue"):
		r.want(";")
		return made(api.Continue, "")
	case r.has("return"):
		if r.has(";") {
			return made(api.Return, "")
		}
		n := made(api.Return, "", r.expr())
		r.want(";")
		return n
	case r.has("if"):
		l := nodes{r.bracketed(), r.block()}
		for r.has("elseif") {
			l = append(l, r.bracketed(), r.block())
		}
		if r.has("else") {
			l = append(l, r.block())
		}
		r.want("endif")
		return made(api.If, "", l...)
	case r.has("for"):
		return r.loop(made)
	case r.has("while"):
		n := made(api.While, "", r.bracketed(), r.block())
		r.want("endwhile")
		return n
	case r.has("fork"):
		n := made(api.Fork, "", r.bracketed(), r.block())
		r.want("endfork")
		return n
	case r.has("try"):
		return r.tries(made)
	}
	n := made(api.Do, "", r.expr())
	r.want(";")
	return n
}

func (r *reader) loop(made func(int, string, ...api.Node) api.Node) api.Node {
	name := r.name()
	r.want("in")
	if !r.has("[") {
		n := made(api.ForIn, name, r.bracketed(), r.block())
		r.want("endfor")
		return n
	}
	from := r.expr()
	r.want("..")
	to := r.expr()
	r.want("]")
	n := made(api.ForTo, name, from, to, r.block())
	r.want("endfor")
	return n
}

func (r *reader) tries(made func(int, string, ...api.Node) api.Node) api.Node {
	l := nodes{r.block()}
	if r.has("finally") {
		n := made(api.Finally, "", l[0], r.block())
		r.want("endtry")
		return n
	}
	for r.next() == "except" {
		n := api.Node{Op: api.Except, Line: r.line()}
		r.want("except")
		if r.kind() == lex.Name {
			n.S = r.name()
		}
		r.want("(")
		codes := r.codes()
		r.want(")")
		n.L = nodes{codes, r.block()}
		l = append(l, n)
	}
	r.want("endtry")
	return made(api.Try, "", l...)
}

func (r *reader) codes() api.Node {
	n := api.Node{Op: api.Make, Line: r.line()}
	if r.has("any") {
		return n
	}
	n.L = nodes{r.expr()}
	for r.has(",") {
		n.L = append(n.L, r.expr())
	}
	return n
}

// expr reads a Set or a Scatter, or what binds more.
func (r *reader) expr() api.Node {
	left := r.cond()
	if !r.has("=") {
		return left
	}
	right := r.expr()
	if left.Op == api.Make {
		return api.Node{Op: api.Scatter, Line: left.Line, L: append(left.L, right)}
	}
	return api.Node{Op: api.Set, Line: left.Line, L: nodes{left, right}}
}

func (r *reader) cond() api.Node {
	n := r.two(0)
	if !r.has("?") {
		return n
	}
	second := r.cond()
	r.want("|")
	return api.Node{Op: api.Cond, Line: n.Line, L: nodes{n, second, r.cond()}}
}

// two reads operations of two from the left, those of one level of binding, or more.
func (r *reader) two(level int) api.Node {
	levels := []map[string]int{
		{"||": api.Or}, {"&&": api.And},
		{"==": api.Eq, "!=": api.Ne, "<": api.Lt, "<=": api.Le, ">": api.Gt, ">=": api.Ge, "in": api.In},
		{"+": api.Add, "-": api.Sub}, {"*": api.Mul, "/": api.Div, "%": api.Mod},
	}
	if level == len(levels) {
		return r.ahead()
	}
	n := r.two(level + 1)
	for {
		op := levels[level][r.next()]
		if op == 0 {
			return n
		}
		r.at++
		n = api.Node{Op: op, Line: n.Line, L: nodes{n, r.two(level + 1)}}
	}
}

func (r *reader) ahead() api.Node {
	line := r.line()
	if r.has("!") {
		return api.Node{Op: api.Not, Line: line, L: nodes{r.ahead()}}
	}
	if r.next() == "-" && !r.negative() {
		r.at++
		return api.Node{Op: api.Neg, Line: line, L: nodes{r.ahead()}}
	}
	return r.behind()
}

// negative tells whether the next words are a minus and an Int.
func (r *reader) negative() bool {
	if r.next() != "-" || r.at+1 == len(r.words) {
		return false
	}
	w := r.words[r.at+1]
	return w.Kind == lex.Lit && w.V.Kind == api.Int
}

func (r *reader) behind() api.Node {
	n := r.first()
	for {
		made := func(op int, l ...api.Node) api.Node { return api.Node{Op: op, Line: n.Line, L: append(nodes{n}, l...)} }
		switch {
		case r.has("["):
			from := r.expr()
			if r.has("..") {
				n = made(api.Slice, from, r.expr())
			} else {
				n = made(api.Index, from)
			}
			r.want("]")
		case r.has("."):
			n = made(api.Prop, r.nameBehind())
		case r.has(":"):
			l := nodes{r.nameBehind()}
			r.want("(")
			n = made(api.Call, append(l, r.items(")")...)...)
		default:
			return n
		}
	}
}

func (r *reader) nameBehind() api.Node {
	if r.next() == "(" {
		return r.bracketed()
	}
	return api.Node{Op: api.Lit, Line: r.line(), V: val.S(r.name())}
}

func (r *reader) items(end string) nodes {
	var l nodes
	if r.has(end) {
		return nil
	}
	for {
		line := r.line()
		if r.has("@") {
			l = append(l, api.Node{Op: api.Splice, Line: line, L: nodes{r.expr()}})
		} else {
			l = append(l, r.expr())
		}
		if r.has(end) {
			return l
		}
		r.want(",")
	}
}

func (r *reader) first() api.Node {
	n := api.Node{Line: r.line()}
	switch {
	case r.has("("):
		n = r.expr()
		r.want(")")
	case r.has("{"):
		n.Op, n.L = api.Make, r.items("}")
	case r.has("`"):
		n.Op, n.L = api.Catch, nodes{r.expr()}
		r.want("!")
		n.L = append(n.L, r.codes())
		if r.has("=>") {
			n.L = append(n.L, r.expr())
		}
		r.want("'")
	case r.negative():
		n.Op, n.V = api.Lit, val.I(-r.words[r.at+1].V.N)
		r.at += 2
	case r.kind() == lex.Lit:
		n.Op, n.V = api.Lit, r.words[r.at].V
		r.at++
	default:
		n.Op, n.S = api.Var, r.name()
		if r.has("(") {
			n.Op, n.L = api.Fun, r.items(")")
		}
	}
	return n
}

// maker makes programs, from a start that is always the same.
type maker struct{ *rand.Rand }

func (m maker) name() string {
	return []string{"a", "b", "_", "x1", "iff", strings.Repeat("n", api.MaxName)}[m.Intn(6)]
}

func (m maker) literal() api.Node {
	return literal([]api.Value{val.I(0), val.I(7), val.I(-7), val.O(0), val.O(12), val.O(-3), val.S("x"), val.S("if"),
		val.S(`a "\`), val.S(""), val.E(api.EDiv)}[m.Intn(11)])
}

func (m maker) exprs(deep, least, most int, splices bool) nodes {
	var l nodes
	for range least + m.Intn(most-least+1) {
		n := m.expr(deep)
		if splices && m.Intn(4) == 0 {
			n = node(api.Splice, n)
		}
		l = append(l, n)
	}
	return l
}

func (m maker) expr(deep int) api.Node {
	if deep <= 0 {
		if m.Intn(2) == 0 {
			return variable(m.name())
		}
		return m.literal()
	}
	deep--
	switch op := api.Lit + m.Intn(api.Catch); op {
	case api.Lit, api.Splice:
		return m.literal()
	case api.Var:
		return variable(m.name())
	case api.Neg, api.Not:
		return node(op, m.expr(deep))
	case api.Cond, api.Slice:
		return node(op, m.exprs(deep, 3, 3, false)...)
	case api.Call:
		return node(op, append(m.exprs(deep, 2, 2, false), m.exprs(deep, 0, 2, true)...)...)
	case api.Fun:
		return named(op, m.name(), m.exprs(deep, 0, 3, true)...)
	case api.Make:
		return makeOf(m.exprs(deep, 0, 3, true)...)
	case api.Set:
		return node(op, m.target(deep), m.expr(deep))
	case api.Scatter:
		l := nodes{variable(m.name())}
		if m.Intn(2) == 0 {
			l = append(l, node(api.Splice, variable(m.name())))
		}
		return node(op, append(l, m.expr(deep))...)
	case api.Catch:
		l := nodes{m.expr(deep), makeOf(m.exprs(deep, 0, 2, false)...)}
		return node(op, append(l, m.exprs(deep, 0, 1, false)...)...)
	default:
		return node(op, m.expr(deep), m.expr(deep))
	}
}

func (m maker) target(deep int) api.Node {
	switch m.Intn(3) {
	case 0:
		return node(api.Prop, m.expr(deep-1), m.expr(deep-1))
	case 1:
		if deep > 0 {
			return node(api.Index, m.target(deep-1), m.expr(deep-1))
		}
	}
	return variable(m.name())
}

func (m maker) block(deep int, inLoop bool) api.Node {
	var l nodes
	for range m.Intn(3) {
		l = append(l, m.statement(deep, inLoop))
	}
	return block(l...)
}

func (m maker) statement(deep int, inLoop bool) api.Node {
	e := m.expr(deep)
	if deep <= 0 {
		return []api.Node{do(e), node(api.Return, e), node(api.Return)}[m.Intn(3)]
	}
	deep--
	switch m.Intn(9) {
	case 0:
		l := nodes{e, m.block(deep, inLoop)}
		if m.Intn(2) == 0 {
			l = append(l, m.expr(deep), m.block(deep, inLoop))
		}
		if m.Intn(2) == 0 {
			l = append(l, m.block(deep, inLoop))
		}
		return node(api.If, l...)
	case 1:
		return named(api.ForIn, m.name(), e, m.block(deep, true))
	case 2:
		return named(api.ForTo, m.name(), e, m.expr(deep), m.block(deep, true))
	case 3:
		return node(api.While, e, m.block(deep, true))
	case 4:
		return node(api.Fork, e, m.block(deep, false))
	case 5:
		l := nodes{m.block(deep, inLoop), named(api.Except, m.name(), makeOf(m.exprs(deep, 0, 3, false)...), m.block(deep, inLoop))}
		if m.Intn(2) == 0 {
			l = append(l, named(api.Except, "", makeOf(m.exprs(deep, 0, 2, false)...), m.block(deep, inLoop)))
		}
		return node(api.Try, l...)
	case 6:
		return node(api.Finally, m.block(deep, inLoop), m.block(deep, inLoop))
	case 7:
		if inLoop {
			return node(api.Break + m.Intn(2))
		}
	}
	return do(e)
}

// lined is l with the lines that its nodes have in the text: a statement is on the line of its first word, what it has on that of its head.
func lined(l nodes, line *int) nodes {
	var out nodes
	for _, n := range l {
		n.Line = *line
		var has nodes
		for _, x := range n.L {
			switch {
			case x.Op != api.Block && x.Op != api.Except:
				has = append(has, allOn(x, *line))
				continue
			case x.Op == api.Except:
				x.Line = *line
				x.L = nodes{allOn(x.L[0], *line), inBlock(x.L[1], line)}
			default:
				x = inBlock(x, line)
			}
			has = append(has, x)
		}
		n.L = has
		*line++
		out = append(out, n)
	}
	return out
}

// inBlock has the statements from the line behind on, and leaves line at the one behind them.
func inBlock(n api.Node, line *int) api.Node {
	*line++
	return api.Node{Op: api.Block, L: lined(n.L, line)}
}

func allOn(n api.Node, line int) api.Node {
	n.Line = line
	n.L = slices.Clone(n.L)
	for i, x := range n.L {
		n.L[i] = allOn(x, line)
	}
	return n
}

func back(t *testing.T, l nodes) {
	t.Helper()
	if err := tree.Valid(l...); err != nil {
		t.Fatal("no program:", err)
	}
	s, err := show.Program(l...)
	if err != nil {
		t.Fatal(err)
	}
	got := readBack(t, s)
	if !tree.Same(l, got) {
		t.Fatalf("%s\nis read as another one:\n%v\n%v", s, l, got)
	}
	line := 1
	if want := lined(l, &line); !reflect.DeepEqual(tree.Clone(want), tree.Clone(got)) {
		t.Fatalf("%s\nhas other lines:\n%v\n%v", s, want, got)
	}
	if line != strings.Count(s, "\n")+1 {
		t.Fatalf("%s\nhas not %d lines", s, line-1)
	}
	if again, err := show.Program(got...); again != s || err != nil {
		t.Fatalf("%s\nis shown as\n%s, %v", s, again, err)
	}
}

// P8.2: what is shown is read back as the same, each node on the line on which it stands.
func TestBack(t *testing.T) {
	m := maker{rand.New(rand.NewSource(8))}
	for range 3000 {
		var l nodes
		for range m.Intn(4) {
			l = append(l, m.statement(m.Intn(4), false))
		}
		back(t, l)
	}
}

// P8.2: each expression within each place is read back.
func TestBackPlaces(t *testing.T) {
	for _, p := range append(inner(), outer()...) {
		for _, n := range append(loose(), tight()...) {
			back(t, nodes{do(p.of(n)), node(api.Return, node(api.Neg, p.of(n)))})
		}
	}
}

// P8.2: the deepest, and its brackets, are read back.
func TestBackDeep(t *testing.T) {
	back(t, nodes{do(deep(api.MaxNest - 1))})
}
