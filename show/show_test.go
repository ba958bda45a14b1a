package show_test

import (
	"errors"
	"math"
	"reflect"
	"strings"
	"testing"

	"inglenook/api"
	"inglenook/lex"
	"inglenook/lit"
	"inglenook/show"
	"inglenook/tree"
	"inglenook/val"
)

type nodes = []api.Node

func on(line int, n api.Node) api.Node {
	n.Line = line
	return n
}

func node(op int, l ...api.Node) api.Node { return api.Node{Op: op, Line: 1, L: l} }

func named(op int, s string, l ...api.Node) api.Node { return api.Node{Op: op, Line: 1, S: s, L: l} }

func literal(v api.Value) api.Node { return api.Node{Op: api.Lit, Line: 1, V: v} }

func number(n int64) api.Node { return literal(val.I(n)) }

func text(s string) api.Node { return literal(val.S(s)) }

func variable(s string) api.Node { return named(api.Var, s) }

func do(n api.Node) api.Node { return node(api.Do, n) }

func block(l ...api.Node) api.Node { return node(api.Block, l...) }

func makeOf(l ...api.Node) api.Node { return node(api.Make, l...) }

var (
	a = variable("a")
	b = variable("b")
	c = variable("c")
)

func expr(t *testing.T, n api.Node, want string) {
	t.Helper()
	if s, err := show.Expr(n); s != want || err != nil {
		t.Errorf("Expr: %q, %v, not %q", s, err, want)
	}
}

func program(t *testing.T, want string, l ...api.Node) {
	t.Helper()
	if s, err := show.Program(l...); s != want || err != nil {
		t.Errorf("Program: %q, %v, not %q", s, err, want)
	}
}

// P8.1: the example of the chapter.
func TestExample(t *testing.T) {
	program(t, "x = (1 + 2) * 3;\n", do(node(api.Set, variable("x"), node(api.Mul, node(api.Add, number(1), number(2)), number(3)))))
}

// P8.1: literals, by lit.Text.
func TestLiterals(t *testing.T) {
	for _, v := range []api.Value{
		val.I(0), val.I(math.MaxInt64), val.I(-1), val.I(math.MinInt64 + 1), val.O(0), val.O(-1), val.O(math.MaxInt32),
		val.S(""), val.S(`a"\b`), val.S(" ~"), val.E(api.ENone), val.E(api.EQuota),
	} {
		expr(t, literal(v), lit.Text(v))
	}
}

// P8.1: the sign of each op of two, and of one.
func TestSigns(t *testing.T) {
	for op, sign := range map[int]string{
		api.Add: "+", api.Sub: "-", api.Mul: "*", api.Div: "/", api.Mod: "%", api.Eq: "==", api.Ne: "!=", api.Lt: "<",
		api.Le: "<=", api.Gt: ">", api.Ge: ">=", api.In: "in", api.And: "&&", api.Or: "||",
	} {
		expr(t, node(op, a, b), "a "+sign+" b")
	}
	expr(t, node(api.Neg, a), "-a")
	expr(t, node(api.Not, a), "!a")
}

// P8.1: each form of an expression, with the most and the least that it may have.
func TestForms(t *testing.T) {
	expr(t, a, "a")
	expr(t, node(api.Cond, a, b, c), "a ? b | c")
	expr(t, node(api.Index, a, b), "a[b]")
	expr(t, node(api.Slice, a, b, c), "a[b..c]")
	expr(t, node(api.Prop, a, text("x")), "a.x")
	expr(t, node(api.Prop, a, b), "a.(b)")
	expr(t, node(api.Call, a, text("x")), "a:x()")
	expr(t, node(api.Call, a, text("x"), b, c), "a:x(b, c)")
	expr(t, node(api.Call, a, b, node(api.Splice, c)), "a:(b)(@c)")
	expr(t, named(api.Fun, "f"), "f()")
	expr(t, named(api.Fun, "f", b, node(api.Splice, c)), "f(b, @c)")
	expr(t, makeOf(), "{}")
	expr(t, makeOf(a, node(api.Splice, b), c), "{a, @b, c}")
	expr(t, node(api.Set, a, b), "a = b")
	expr(t, node(api.Set, node(api.Prop, a, b), c), "a.(b) = c")
	expr(t, node(api.Set, node(api.Index, node(api.Index, a, b), c), c), "a[b][c] = c")
	expr(t, node(api.Scatter, a, b), "{a} = b")
	expr(t, node(api.Scatter, a, b, c), "{a, b} = c")
	expr(t, node(api.Scatter, a, node(api.Splice, b), c), "{a, @b} = c")
	expr(t, node(api.Catch, a, makeOf()), "`a ! any'")
	expr(t, node(api.Catch, a, makeOf(), b), "`a ! any => b'")
	expr(t, node(api.Catch, a, makeOf(literal(val.E(api.EDiv)))), "`a ! E_DIV'")
	expr(t, node(api.Catch, a, makeOf(b, c), c), "`a ! b, c => c'")
}

// P8.1: a name stands as it is just if it is a literal text that is a name and no key.
func TestNames(t *testing.T) {
	for _, s := range []string{"x", "_", "a1_", "e_div", "iff", "anything", strings.Repeat("n", api.MaxName)} {
		expr(t, node(api.Prop, a, text(s)), "a."+s)
		expr(t, node(api.Call, a, text(s)), "a:"+s+"()")
	}
	for _, s := range append(lex.Keys(), "", "1", "1a", "A", "aB", "a b", " a", "a ", "a-b", `"`, "$", strings.Repeat("n", api.MaxName+1)) {
		quoted := lit.Text(val.S(s))
		expr(t, node(api.Prop, a, text(s)), "a.("+quoted+")")
		expr(t, node(api.Call, a, text(s), b), "a:("+quoted+")(b)")
	}
	for _, n := range []api.Node{a, number(5), literal(val.O(5)), literal(val.E(1)), node(api.Prop, b, text("x"))} {
		s, _ := show.Expr(n)
		expr(t, node(api.Prop, a, n), "a.("+s+")")
		expr(t, node(api.Call, a, n), "a:("+s+")()")
	}
}

// loose is expressions that stand in brackets within another one.
func loose() nodes {
	l := nodes{node(api.Neg, a), node(api.Not, a), node(api.Cond, a, b, c), node(api.Set, a, b), node(api.Scatter, a, b),
		number(-1), number(math.MinInt64 + 1), literal(val.O(-1))}
	for op := api.Add; op <= api.Or; op++ {
		l = append(l, node(op, a, b))
	}
	return l
}

// tight is expressions that stand as they are everywhere, but for what Neg has. (Of its texts none is a name, that would stand without its quotes behind a point.)
func tight() nodes {
	return nodes{a, number(0), number(1), literal(val.O(0)), text("-1"), literal(val.E(api.EType)), node(api.Index, a, b),
		node(api.Slice, a, b, c), node(api.Prop, a, text("x")), node(api.Call, a, b), named(api.Fun, "f", a), makeOf(a),
		node(api.Catch, a, makeOf())}
}

// around is a place in an expression: what is made of it, and the text of that, E being where the inner text is.
type around struct {
	of   func(n api.Node) api.Node
	text string
}

// inner is the places in which brackets are needed.
func inner() []around {
	l := []around{
		{func(n api.Node) api.Node { return node(api.Not, n) }, "!E"},
		{func(n api.Node) api.Node { return node(api.Cond, n, a, b) }, "E ? a | b"},
		{func(n api.Node) api.Node { return node(api.Cond, a, n, b) }, "a ? E | b"},
		{func(n api.Node) api.Node { return node(api.Cond, a, b, n) }, "a ? b | E"},
		{func(n api.Node) api.Node { return node(api.Index, n, a) }, "E[a]"},
		{func(n api.Node) api.Node { return node(api.Slice, n, a, b) }, "E[a..b]"},
		{func(n api.Node) api.Node { return node(api.Prop, n, text("x")) }, "E.x"},
		{func(n api.Node) api.Node { return node(api.Prop, n, a) }, "E.(a)"},
		{func(n api.Node) api.Node { return node(api.Call, n, text("x"), a) }, "E:x(a)"},
		{func(n api.Node) api.Node { return node(api.Call, n, a) }, "E:(a)()"},
		{func(n api.Node) api.Node { return node(api.Catch, n, makeOf()) }, "`E ! any'"},
		{func(n api.Node) api.Node { return node(api.Catch, a, makeOf(b), n) }, "`a ! b => E'"},
		{func(n api.Node) api.Node { return node(api.Set, node(api.Prop, n, text("x")), a) }, "E.x = a"},
		{func(n api.Node) api.Node { return node(api.Index, node(api.Call, n, text("x")), a) }, "E:x()[a]"},
	}
	for op := api.Add; op <= api.Or; op++ {
		sign, _ := show.Expr(node(op, a, b))
		sign = sign[1 : len(sign)-1]
		l = append(l, around{func(n api.Node) api.Node { return node(op, n, a) }, "E" + sign + "a"},
			around{func(n api.Node) api.Node { return node(op, a, n) }, "a" + sign + "E"})
	}
	return l
}

// outer is the places in which no brackets are.
func outer() []around {
	return []around{
		{func(n api.Node) api.Node { return n }, "E"},
		{func(n api.Node) api.Node { return node(api.Index, a, n) }, "a[E]"},
		{func(n api.Node) api.Node { return node(api.Slice, a, n, b) }, "a[E..b]"},
		{func(n api.Node) api.Node { return node(api.Slice, a, b, n) }, "a[b..E]"},
		{func(n api.Node) api.Node { return node(api.Prop, a, n) }, "a.(E)"},
		{func(n api.Node) api.Node { return node(api.Call, a, n) }, "a:(E)()"},
		{func(n api.Node) api.Node { return node(api.Call, a, text("x"), n, b) }, "a:x(E, b)"},
		{func(n api.Node) api.Node { return node(api.Call, a, text("x"), b, node(api.Splice, n)) }, "a:x(b, @E)"},
		{func(n api.Node) api.Node { return named(api.Fun, "f", a, n) }, "f(a, E)"},
		{func(n api.Node) api.Node { return named(api.Fun, "f", node(api.Splice, n)) }, "f(@E)"},
		{func(n api.Node) api.Node { return makeOf(n, a) }, "{E, a}"},
		{func(n api.Node) api.Node { return makeOf(node(api.Splice, n), a) }, "{@E, a}"},
		{func(n api.Node) api.Node { return node(api.Set, a, n) }, "a = E"},
		{func(n api.Node) api.Node { return node(api.Set, node(api.Index, a, n), b) }, "a[E] = b"},
		{func(n api.Node) api.Node { return node(api.Scatter, a, node(api.Splice, b), n) }, "{a, @b} = E"},
		{func(n api.Node) api.Node { return node(api.Catch, a, makeOf(n, b)) }, "`a ! E, b'"},
		{func(n api.Node) api.Node { return node(api.Catch, a, makeOf(b, n), c) }, "`a ! b, E => c'"},
	}
}

// P8.1: brackets stand around what the chapter names, just where it names them.
func TestBrackets(t *testing.T) {
	ask := func(places []around, l nodes, ahead, behind string) {
		for _, p := range places {
			for _, n := range l {
				s, err := show.Expr(n)
				if s == "" || err != nil {
					t.Fatal(n, s, err)
				}
				expr(t, p.of(n), strings.Replace(p.text, "E", ahead+s+behind, 1))
			}
		}
	}
	ask(inner(), loose(), "(", ")")
	ask(inner(), tight(), "", "")
	ask(outer(), loose(), "", "")
	ask(outer(), tight(), "", "")
}

// P8.1: what Neg has is in brackets also where it begins with a digit.
func TestNeg(t *testing.T) {
	neg := func(n api.Node) api.Node { return node(api.Neg, n) }
	for _, n := range loose() {
		s, _ := show.Expr(n)
		expr(t, neg(n), "-("+s+")")
	}
	for _, n := range tight() {
		s, _ := show.Expr(n)
		if s[0] >= '0' && s[0] <= '9' {
			s = "(" + s + ")"
		}
		expr(t, neg(n), "-"+s)
	}
	index := func(n api.Node) api.Node { return node(api.Index, n, a) }
	expr(t, neg(number(0)), "-(0)")
	expr(t, neg(index(number(7))), "-(7[a])")
	expr(t, neg(node(api.Slice, number(7), a, b)), "-(7[a..b])")
	expr(t, neg(node(api.Prop, number(7), text("x"))), "-(7.x)")
	expr(t, neg(node(api.Call, index(number(7)), text("x"))), "-(7[a]:x())")
	expr(t, neg(index(index(number(-7)))), "-(-7)[a][a]")
	expr(t, neg(index(node(api.Add, number(7), a))), "-(7 + a)[a]")
	expr(t, neg(node(api.Prop, literal(val.O(7)), text("x"))), "-#7.x")
	expr(t, neg(node(api.Prop, literal(val.O(-7)), text("x"))), "-(#-7).x")
	expr(t, neg(text("7")), `-"7"`)
	expr(t, neg(named(api.Fun, "f", number(7))), "-f(7)")
	expr(t, neg(makeOf(number(7))), "-{7}")
	expr(t, neg(node(api.Catch, number(7), makeOf())), "-`7 ! any'")
	expr(t, node(api.Not, number(7)), "!7")
	expr(t, node(api.Sub, a, neg(number(7))), "a - (-(7))")
}

// P8.1: each form of a statement, alone.
func TestStatements(t *testing.T) {
	some, none := block(do(b)), block()
	program(t, "")
	program(t, "a;\n", do(a))
	program(t, "return;\n", node(api.Return))
	program(t, "return a;\n", node(api.Return, a))
	program(t, "if (a)\n  b;\nendif\n", node(api.If, a, some))
	program(t, "if (a)\nelse\n  b;\nendif\n", node(api.If, a, none, some))
	program(t, "if (a)\n  b;\nelseif (b)\nelseif (c)\n  b;\nendif\n", node(api.If, a, some, b, none, c, some))
	program(t, "if (a)\nelseif (b)\n  b;\nelse\nendif\n", node(api.If, a, none, b, some, none))
	program(t, "for x in (a)\n  b;\n  break;\nendfor\n", named(api.ForIn, "x", a, block(do(b), node(api.Break))))
	program(t, "for x in [a..b]\n  continue;\n  b;\nendfor\n", named(api.ForTo, "x", a, b, block(node(api.Continue), do(b))))
	program(t, "while (a)\nendwhile\n", node(api.While, a, none))
	program(t, "while (a)\n  b;\nendwhile\n", node(api.While, a, some))
	program(t, "fork (a)\n  b;\nendfork\n", node(api.Fork, a, some))
	program(t, "try\n  b;\nexcept (any)\n  b;\nendtry\n", node(api.Try, some, named(api.Except, "", makeOf(), some)))
	program(t, "try\nexcept x (any)\nexcept y (E_DIV)\n  b;\nexcept (a, E_NONE)\nendtry\n", node(api.Try, none,
		named(api.Except, "x", makeOf(), none), named(api.Except, "y", makeOf(literal(val.E(api.EDiv))), some),
		named(api.Except, "", makeOf(a, literal(val.E(api.ENone))), none)))
	program(t, "try\n  b;\nfinally\n  b;\nendtry\n", node(api.Finally, some, some))
	program(t, "try\nfinally\nendtry\n", node(api.Finally, none, none))
}

// P8.1: what stands in a statement's own brackets has none of its own.
func TestStatementBrackets(t *testing.T) {
	for _, n := range append(loose(), tight()...) {
		s, _ := show.Expr(n)
		program(t, strings.ReplaceAll("E;\nreturn E;\nif (E)\nelseif (E)\nendif\nfor x in (E)\nendfor\nfor x in [E..E]\nendfor\nwhile (E)\nendwhile\nfork (E)\nendfork\ntry\nexcept x (E, E)\nendtry\n", "E", s),
			do(n), node(api.Return, n), node(api.If, n, block(), n, block()), named(api.ForIn, "x", n, block()),
			named(api.ForTo, "x", n, n, block()), node(api.While, n, block()), node(api.Fork, n, block()),
			node(api.Try, block(), named(api.Except, "x", makeOf(n, n), block())))
	}
}

// P8.1: two spaces ahead for each Block that a line is in, and none more behind it.
func TestIndent(t *testing.T) {
	program(t, `if (a)
  while (b)
    try
      for x in (c)
        fork (a)
          try
            a;
          finally
            return;
          endtry
        endfork
        break;
      endfor
    except (any)
      for y in [a..b]
      endfor
    endtry
    continue;
  endwhile
  b;
else
  c;
endif
a;
`, node(api.If, a, block(node(api.While, b, block(
		node(api.Try, block(named(api.ForIn, "x", c, block(
			node(api.Fork, a, block(node(api.Finally, block(do(a)), block(node(api.Return))))), node(api.Break)))),
			named(api.Except, "", makeOf(), block(named(api.ForTo, "y", a, b, block())))),
		node(api.Continue))), do(b)), block(do(c))), do(a))
}

// P8.1: neither the lines of nodes nor nil instead of an empty list show.
func TestLinesDoNotShow(t *testing.T) {
	program(t, "a;\nreturn b;\n", on(90, do(on(-3, a))), on(0, node(api.Return, on(math.MaxInt, b))))
	expr(t, on(7, api.Node{Op: api.Make, L: nodes{}}), "{}")
	expr(t, api.Node{Op: api.Var, S: "a", L: nodes{}}, "a")
}

// deep is an expression of so many levels.
func deep(levels int) api.Node {
	n := a
	for range levels - 1 {
		n = node(api.Neg, n)
	}
	return n
}

// many is statements of so many nodes.
func many(count int) nodes {
	l := make(nodes, count)
	for i := range l {
		l[i] = node(api.Return)
	}
	return l
}

// P8.1, P0.2, P0.3: tree's errors, and no text beside.
func TestErrors(t *testing.T) {
	fails := func(what string, s string, err error, line int, want error) {
		t.Helper()
		at, around := err.(*api.At)
		if s != "" || !errors.Is(err, want) || around != (line != 0) || around && at.Pos != line {
			t.Errorf("%s: %q, %v, not %v around %d", what, s, err, want, line)
		}
	}
	ask := func(what string, line int, want error, l ...api.Node) {
		t.Helper()
		s, err := show.Program(l...)
		fails(what, s, err, line, want)
		if !reflect.DeepEqual(err, tree.Valid(l...)) {
			t.Errorf("%s: %v, not as tree's", what, err)
		}
	}
	ask("a Break alone", 4, api.ErrShape, do(a), on(4, node(api.Break)))
	ask("an expression as a statement", 2, api.ErrShape, do(a), on(2, a))
	ask("a Block as a statement", 1, api.ErrShape, block())
	ask("no op", 3, api.ErrShape, on(3, api.Node{}))
	ask("a Do of none", 1, api.ErrShape, node(api.Do))
	ask("a list as a literal", 5, api.ErrShape, do(on(5, literal(val.L()))))
	ask("a key as a variable", 6, api.ErrName, do(on(6, variable("any"))))
	ask("a sign's op too great", 1, api.ErrShape, do(node(99, a, b)))
	ask("too many", 0, api.ErrMany, many(4097)...)
	ask("too deep", 0, api.ErrDeep, do(deep(api.MaxNest)))

	for _, x := range []struct {
		n    api.Node
		line int
		want error
	}{
		{do(a), 1, api.ErrShape}, {node(api.Splice, a), 1, api.ErrShape}, {api.Node{Op: -1, Line: 3}, 3, api.ErrShape},
		{on(2, variable("A")), 2, api.ErrName}, {node(api.Set, on(2, number(1)), a), 2, api.ErrShape},
		{deep(api.MaxNest + 1), 0, api.ErrDeep}, {makeOf(many(4096)...), 0, api.ErrMany},
	} {
		s, err := show.Expr(x.n)
		fails("Expr", s, err, x.line, x.want)
		if !reflect.DeepEqual(err, tree.Expr(x.n)) {
			t.Errorf("Expr: %v, not as tree's", err)
		}
	}
}

// P8.1: as many and as deep as may be.
func TestMost(t *testing.T) {
	program(t, strings.Repeat("return;\n", 4096), many(4096)...)
	expr(t, deep(api.MaxNest), strings.Repeat("-(", api.MaxNest-2)+"-a"+strings.Repeat(")", api.MaxNest-2))
}

// P0.1: nodes that hold themselves are too many, and no panic.
func TestHoldsItself(t *testing.T) {
	l := makeOf(a)
	l.L[0] = l
	if s, err := show.Expr(l); s != "" || err != api.ErrMany {
		t.Error(s, err)
	}
	if s, err := show.Program(l.L...); s != "" || err != api.ErrMany {
		t.Error(s, err)
	}
}

// P0.4, P0.5: what is handed in isn't changed, what lies behind its length isn't read, and the same answers come again.
func TestHandedIn(t *testing.T) {
	l := nodes{node(api.If, a, block(do(makeOf(text("x"), b))), block()), node(api.Return, a), do(b)}[:2]
	before := tree.Clone(l[:3])
	first, _ := show.Program(l...)
	second, _ := show.Program(l...)
	if want := "if (a)\n  {\"x\", b};\nelse\nendif\nreturn a;\n"; first != want || second != want {
		t.Errorf("%q, %q", first, second)
	}
	if !reflect.DeepEqual(before, tree.Clone(l[:3])) {
		t.Error("changed")
	}
}
