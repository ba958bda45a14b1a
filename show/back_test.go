package show_test

import (
	"math/rand"
	"reflect"
	"slices"
	"strings"
	"testing"

	"inglenook/api"
	"inglenook/parse"
	"inglenook/show"
	"inglenook/tree"
	"inglenook/val"
)

// maker makes programs, from a start that is always the same.
type maker struct{ *rand.Rand }

func (m maker) name() string {
	return []string{"a", "b", "_", "x1", "iff", strings.Repeat("n", api.MaxName)}[m.Intn(6)]
}

func (m maker) literal() api.Node {
	return literal([]api.Value{val.I(0), val.I(7), val.I(-7), val.O(0), val.O(12), val.O(-3), val.S("x"), val.S("if"),
		val.S(`a "\`), val.S(""), val.E(api.EDiv)}[m.Intn(11)])
}

func (m maker) exprs(deep, least, most int, splices bool) nodes {
	var l nodes
	for range least + m.Intn(most-least+1) {
		n := m.expr(deep)
		if splices && m.Intn(4) == 0 {
			n = node(api.Splice, n)
		}
		l = append(l, n)
	}
	return l
}

func (m maker) expr(deep int) api.Node {
	if deep <= 0 {
		if m.Intn(2) == 0 {
			return variable(m.name())
		}
		return m.literal()
	}
	deep--
	switch op := api.Lit + m.Intn(api.Catch); op {
	case api.Lit, api.Splice:
		return m.literal()
	case api.Var:
		return variable(m.name())
	case api.Neg, api.Not:
		return node(op, m.expr(deep))
	case api.Cond, api.Slice:
		return node(op, m.exprs(deep, 3, 3, false)...)
	case api.Call:
		return node(op, append(m.exprs(deep, 2, 2, false), m.exprs(deep, 0, 2, true)...)...)
	case api.Fun:
		return named(op, m.name(), m.exprs(deep, 0, 3, true)...)
	case api.Make:
		return makeOf(m.exprs(deep, 0, 3, true)...)
	case api.Set:
		return node(op, m.target(deep), m.expr(deep))
	case api.Scatter:
		l := nodes{variable(m.name())}
		if m.Intn(2) == 0 {
			l = append(l, node(api.Splice, variable(m.name())))
		}
		return node(op, append(l, m.expr(deep))...)
	case api.Catch:
		l := nodes{m.expr(deep), makeOf(m.exprs(deep, 0, 2, false)...)}
		return node(op, append(l, m.exprs(deep, 0, 1, false)...)...)
	default:
		return node(op, m.expr(deep), m.expr(deep))
	}
}

func (m maker) target(deep int) api.Node {
	switch m.Intn(3) {
	case 0:
		return node(api.Prop, m.expr(deep-1), m.expr(deep-1))
	case 1:
		if deep > 0 {
			return node(api.Index, m.target(deep-1), m.expr(deep-1))
		}
	}
	return variable(m.name())
}

func (m maker) block(deep int, inLoop bool) api.Node {
	var l nodes
	for range m.Intn(3) {
		l = append(l, m.statement(deep, inLoop))
	}
	return block(l...)
}

func (m maker) statement(deep int, inLoop bool) api.Node {
	e := m.expr(deep)
	if deep <= 0 {
		return []api.Node{do(e), node(api.Return, e), node(api.Return)}[m.Intn(3)]
	}
	deep--
	switch m.Intn(9) {
	case 0:
		l := nodes{e, m.block(deep, inLoop)}
		if m.Intn(2) == 0 {
			l = append(l, m.expr(deep), m.block(deep, inLoop))
		}
		if m.Intn(2) == 0 {
			l = append(l, m.block(deep, inLoop))
		}
		return node(api.If, l...)
	case 1:
		return named(api.ForIn, m.name(), e, m.block(deep, true))
	case 2:
		return named(api.ForTo, m.name(), e, m.expr(deep), m.block(deep, true))
	case 3:
		return node(api.While, e, m.block(deep, true))
	case 4:
		return node(api.Fork, e, m.block(deep, false))
	case 5:
		l := nodes{m.block(deep, inLoop), named(api.Except, m.name(), makeOf(m.exprs(deep, 0, 3, false)...), m.block(deep, inLoop))}
		if m.Intn(2) == 0 {
			l = append(l, named(api.Except, "", makeOf(m.exprs(deep, 0, 2, false)...), m.block(deep, inLoop)))
		}
		return node(api.Try, l...)
	case 6:
		return node(api.Finally, m.block(deep, inLoop), m.block(deep, inLoop))
	case 7:
		if inLoop {
			return node(api.Break + m.Intn(2))
		}
	}
	return do(e)
}

// lined is l with the lines that its nodes have in the text: a statement is on the line of its first word, what it has on that of its head.
func lined(l nodes, line *int) nodes {
	var out nodes
	for _, n := range l {
		n.Line = *line
		var has nodes
		for _, x := range n.L {
			switch {
			case x.Op != api.Block && x.Op != api.Except:
				has = append(has, allOn(x, *line))
				continue
			case x.Op == api.Except:
				x.Line = *line
				x.L = nodes{allOn(x.L[0], *line), inBlock(x.L[1], line)}
			default:
				x = inBlock(x, line)
			}
			has = append(has, x)
		}
		n.L = has
		*line++
		out = append(out, n)
	}
	return out
}

// inBlock has the statements from the line behind on, and leaves line at the one behind them. A Block without a word has no line.
func inBlock(n api.Node, line *int) api.Node {
	*line++
	n.Line = 0
	if len(n.L) > 0 {
		n.Line = *line
	}
	n.L = lined(n.L, line)
	return n
}

func allOn(n api.Node, line int) api.Node {
	n.Line = line
	n.L = slices.Clone(n.L)
	for i, x := range n.L {
		n.L[i] = allOn(x, line)
	}
	return n
}

func back(t *testing.T, l nodes) {
	t.Helper()
	if err := tree.Valid(l...); err != nil {
		t.Fatal("no program:", err)
	}
	s, err := show.Program(l...)
	if err != nil {
		t.Fatal(err)
	}
	got, err := parse.Program(s)
	if err != nil {
		t.Fatalf("%s\nis no program: %v", s, err)
	}
	if !tree.Same(l, got) {
		t.Fatalf("%s\nis read as another one:\n%v\n%v", s, l, got)
	}
	line := 1
	if want := lined(l, &line); !reflect.DeepEqual(tree.Clone(want), tree.Clone(got)) {
		t.Fatalf("%s\nhas other lines:\n%v\n%v", s, want, got)
	}
	if line != strings.Count(s, "\n")+1 {
		t.Fatalf("%s\nhas not %d lines", s, line-1)
	}
	if again, err := show.Program(got...); again != s || err != nil {
		t.Fatalf("%s\nis shown as\n%s, %v", s, again, err)
	}
}

// P8.2: what is shown is read back as the same, each node on the line on which it stands.
func TestBack(t *testing.T) {
	m := maker{rand.New(rand.NewSource(8))}
	for range 3000 {
		var l nodes
		for range m.Intn(4) {
			l = append(l, m.statement(m.Intn(4), false))
		}
		back(t, l)
	}
}

// P8.2: each expression within each place is read back.
func TestBackPlaces(t *testing.T) {
	for _, p := range append(inner(), outer()...) {
		for _, n := range append(loose(), tight()...) {
			back(t, nodes{do(p.of(n)), node(api.Return, node(api.Neg, p.of(n)))})
		}
	}
}

// P8.2: the deepest, and its brackets, are read back.
func TestBackDeep(t *testing.T) {
	back(t, nodes{do(deep(api.MaxNest - 1))})
}
