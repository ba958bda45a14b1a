package parse_test

import (
	"math"
	"reflect"
	"strings"
	"testing"

	"inglenook/api"
	"inglenook/parse"
	"inglenook/show"
	"inglenook/tree"
	"inglenook/val"
)

type nodes = []api.Node

func node(line, op int, l ...api.Node) api.Node { return api.Node{Op: op, Line: line, L: l} }

func named(line, op int, s string, l ...api.Node) api.Node {
	return api.Node{Op: op, Line: line, S: s, L: l}
}

func literal(line int, v api.Value) api.Node { return api.Node{Op: api.Lit, Line: line, V: v} }

func number(line int, n int64) api.Node { return literal(line, val.I(n)) }

func text(line int, s string) api.Node { return literal(line, val.S(s)) }

func variable(line int, s string) api.Node { return named(line, api.Var, s) }

func a(line int) api.Node { return variable(line, "a") }

func b(line int) api.Node { return variable(line, "b") }

func c(line int) api.Node { return variable(line, "c") }

func do(n api.Node) api.Node { return node(n.Line, api.Do, n) }

func block(l ...api.Node) api.Node {
	if len(l) == 0 {
		return node(0, api.Block)
	}
	return node(l[0].Line, api.Block, l...)
}

// split puts each word of s, that are parted by spaces, on a line of its own.
func split(s string) string { return strings.ReplaceAll(s, " ", "\n") }

// equal tells whether all of a and b is the same, nil and the empty list too.
func equal(a, b nodes) bool {
	return len(a) == 0 && len(b) == 0 || reflect.DeepEqual(tree.Clone(a), tree.Clone(b))
}

// expr asks for an expression, with its lines.
func expr(t *testing.T, s string, want api.Node) {
	t.Helper()
	if n, err := parse.Expr(s); err != nil || !equal(nodes{n}, nodes{want}) {
		t.Errorf("Expr(%q): %v, %v, not %v", s, n, err, want)
	}
}

// shown asks for an expression that is shown as want.
func shown(t *testing.T, s, want string) {
	t.Helper()
	n, err := parse.Expr(s)
	if err != nil {
		t.Errorf("Expr(%q): %v", s, err)
		return
	}
	if got, err := show.Expr(n); got != want || err != nil {
		t.Errorf("Expr(%q) is %q, %v, not %q", s, got, err, want)
	}
}

// program asks for a program, with its lines.
func program(t *testing.T, s string, want ...api.Node) {
	t.Helper()
	if l, err := parse.Program(s); err != nil || !equal(l, want) {
		t.Errorf("Program(%q): %v, %v, not %v", s, l, err, want)
	}
}

// around is the error around its line; on line 0 it is alone.
func around(line int, err error) error {
	if line == 0 {
		return err
	}
	return &api.At{Pos: line, Err: err}
}

func noProgram(t *testing.T, s string, line int, want error) {
	t.Helper()
	if l, err := parse.Program(s); len(l) > 0 || !reflect.DeepEqual(err, around(line, want)) {
		t.Errorf("Program(%.80q): %d nodes, %v, not %v", s, len(l), err, around(line, want))
	}
}

func noExpr(t *testing.T, s string, line int, want error) {
	t.Helper()
	if n, err := parse.Expr(s); !reflect.DeepEqual(n, api.Node{}) || !reflect.DeepEqual(err, around(line, want)) {
		t.Errorf("Expr(%.80q): op %d, %v, not %v", s, n.Op, err, around(line, want))
	}
}

// P9.1: each form of an expression, each word on a line of its own.
func TestForms(t *testing.T) {
	for s, want := range map[string]api.Node{
		"7":                          number(1, 7),
		"9223372036854775807":        number(1, math.MaxInt64),
		"#-3":                        literal(1, val.O(-3)),
		`"if"`:                       text(1, "if"),
		"E_DIV":                      literal(1, val.E(api.EDiv)),
		"a":                          a(1),
		"- a":                        node(1, api.Neg, a(2)),
		"! a":                        node(1, api.Not, a(2)),
		"a ? b | c":                  node(1, api.Cond, a(1), b(3), c(5)),
		"a [ b ]":                    node(1, api.Index, a(1), b(3)),
		"a [ b .. c ]":               node(1, api.Slice, a(1), b(3), c(5)),
		"a . b":                      node(1, api.Prop, a(1), text(3, "b")),
		"a . ( b )":                  node(1, api.Prop, a(1), b(4)),
		"a : b ( )":                  node(1, api.Call, a(1), text(3, "b")),
		"a : ( b ) ( @ c , 1 )":      node(1, api.Call, a(1), b(4), node(7, api.Splice, c(8)), number(10, 1)),
		"f ( )":                      named(1, api.Fun, "f"),
		"f ( a , @ b )":              named(1, api.Fun, "f", a(3), node(5, api.Splice, b(6))),
		"{ }":                        node(1, api.Make),
		"{ a }":                      node(1, api.Make, a(2)),
		"{ a , @ b , c }":            node(1, api.Make, a(2), node(4, api.Splice, b(5)), c(7)),
		"{ @ a = b }":                node(1, api.Make, node(2, api.Splice, node(3, api.Set, a(3), b(5)))),
		"$ a":                        node(1, api.Prop, literal(1, val.O(0)), text(2, "a")),
		"$ a : b ( )":                node(1, api.Call, node(1, api.Prop, literal(1, val.O(0)), text(2, "a")), text(4, "b")),
		"a = b":                      node(1, api.Set, a(1), b(3)),
		"{ a } = b":                  node(1, api.Scatter, a(2), b(5)),
		"{ a , b , @ c } = 1":        node(1, api.Scatter, a(2), b(4), node(6, api.Splice, c(7)), number(10, 1)),
		"{ @ a } = b":                node(1, api.Scatter, node(2, api.Splice, a(3)), b(6)),
		"` a ! any '":                node(1, api.Catch, a(2), node(4, api.Make)),
		"` a ! any => b '":           node(1, api.Catch, a(2), node(4, api.Make), b(6)),
		"` a ! b '":                  node(1, api.Catch, a(2), node(4, api.Make, b(4))),
		"` a ! b , c => 1 '":         node(1, api.Catch, a(2), node(4, api.Make, b(4), c(6)), number(8, 1)),
		"` a = b ! b = c => c = a '": node(1, api.Catch, node(2, api.Set, a(2), b(4)), node(6, api.Make, node(6, api.Set, b(6), c(8))), node(10, api.Set, c(10), a(12))),
	} {
		expr(t, split(s), want)
		expr(t, "\n\n"+strings.ReplaceAll(s, " ", "\n   \n")+"\n", lined(want, func(line int) int { return 2*line + 1 }))
		expr(t, s, lined(want, func(int) int { return 1 }))
		program(t, split(s+" ;"), do(want))
		program(t, split("return "+s+" ;"), node(1, api.Return, lined(want, func(line int) int { return line + 1 })))
	}
}

// lined is n with other lines.
func lined(n api.Node, line func(int) int) api.Node {
	if n.Line > 0 {
		n.Line = line(n.Line)
	}
	n.L = tree.Clone(n.L)
	for i, x := range n.L {
		n.L[i] = lined(x, line)
	}
	return n
}

func levels() [][]string {
	return [][]string{{"||"}, {"&&"}, {"==", "!=", "<", "<=", ">", ">=", "in"}, {"+", "-"}, {"*", "/", "%"}}
}

// P9.1: of two signs the one of the higher level binds more; those of one level bind from the left.
func TestBinding(t *testing.T) {
	for i, ones := range levels() {
		for j, others := range levels() {
			for _, x := range ones {
				for _, y := range others {
					want := "(a " + x + " b) " + y + " c"
					if i < j {
						want = "a " + x + " (b " + y + " c)"
					}
					shown(t, "a "+x+" b "+y+" c", want)
				}
			}
		}
		for _, x := range ones {
			shown(t, "a"+" "+x+" "+"b", "a "+x+" b")
			shown(t, "a = b "+x+" c", "a = b "+x+" c")
			shown(t, "a "+x+" b ? b "+x+" c | c "+x+" a", "(a "+x+" b) ? (b "+x+" c) | (c "+x+" a)")
			shown(t, "!a "+x+" !b", "(!a) "+x+" (!b)")
			shown(t, "-a "+x+" -b", "(-a) "+x+" (-b)")
			shown(t, "a.b "+x+" c[1]", "a.b "+x+" c[1]")
			shown(t, "a "+x+" (b = c)", "a "+x+" (b = c)")
			shown(t, "(a "+x+" b)", "a "+x+" b")
		}
	}
	for s, want := range map[string]string{
		"a = b = c":           "a = b = c",
		"{a} = {b} = c":       "{a} = {b} = c",
		"a = {b} = a.x = c":   "a = {b} = a.x = c",
		"a = b ? c | d":       "a = b ? c | d",
		"a ? b | c ? d | e":   "a ? b | (c ? d | e)",
		"a ? b ? c | d | e":   "a ? (b ? c | d) | e",
		"(a ? b | c) ? d | e": "(a ? b | c) ? d | e",
		"a ? (b = c) | d":     "a ? (b = c) | d",
		"a || b ? c | d || e": "(a || b) ? c | (d || e)",
		"!a ? !b | !c":        "(!a) ? (!b) | (!c)",
		"!-!a":                "!(-(!a))",
		"-a[1]":               "-a[1]",
		"!a.b":                "!a.b",
		"-a:b()":              "-a:b()",
		"!f()":                "!f()",
		"(-a)[1]":             "(-a)[1]",
		"(a + b).c":           "(a + b).c",
		"(a = b):c()":         "(a = b):c()",
		"((a))[((b))]":        "a[b]",
		"a[b = c]":            "a[b = c]",
		"a[b = c..c = d]":     "a[b = c..c = d]",
		"f(a = b, c ? d | e)": "f(a = b, c ? d | e)",
		"a:b(a = b, @c + d)":  "a:b(a = b, @c + d)",
		"{@a ? b | c}":        "{@a ? b | c}",
		"{@{1}}":              "{@{1}}",
		"f(@-1)":              "f(@-1)",
		"a.(b = c)":           "a.(b = c)",
		"a[1][2].b:c()[3..4]": "a[1][2].b:c()[3..4]",
		"{1}[1]":              "{1}[1]",
		"\"a\"[1]":            "\"a\"[1]",
		"`a ! any'.b":         "`a ! any'.b",
		"``a ! any' ! any'":   "``a ! any' ! any'",
		"`!a ! !b => !c'":     "`(!a) ! !b => (!c)'",
		"$a.b":                "#0.a.b",
		"-$a":                 "-#0.a",
		"$a[$b]":              "#0.a[#0.b]",
		"f (a)":               "f(a)",
		"f(f(f()))":           "f(f(f()))",
		"a!=b":                "a != b",
		"a<b<=c>d>=e==f!=g":   "(((((a < b) <= c) > d) >= e) == f) != g",
	} {
		shown(t, s, want)
	}
}

// P9.1: a minus ahead of an Int is a literal, where both stand ahead of nothing but what is behind.
func TestMinus(t *testing.T) {
	for s, want := range map[string]api.Node{
		"- 5":                   number(1, -5),
		"- 0":                   number(1, 0),
		"- 9223372036854775807": number(1, -math.MaxInt64),
		"- - 5":                 node(1, api.Neg, number(2, -5)),
		"- - - 5":               node(1, api.Neg, node(2, api.Neg, number(3, -5))),
		"! - 5":                 node(1, api.Not, number(2, -5)),
		"- ! 5":                 node(1, api.Neg, node(2, api.Not, number(3, 5))),
		"- ( 5 )":               node(1, api.Neg, number(3, 5)),
		"( - 5 )":               number(2, -5),
		"- #5":                  node(1, api.Neg, literal(2, val.O(5))),
		`- "5"`:                 node(1, api.Neg, text(2, "5")),
		"- E_DIV":               node(1, api.Neg, literal(2, val.E(api.EDiv))),
		"- a":                   node(1, api.Neg, a(2)),
		"- 5 [ 6 ]":             node(1, api.Index, number(1, -5), number(4, 6)),
		"- 5 . a":               node(1, api.Prop, number(1, -5), text(4, "a")),
		"- 5 : a ( - 6 )":       node(1, api.Call, number(1, -5), text(4, "a"), number(6, -6)),
		"- 5 . a = 6":           node(1, api.Set, node(1, api.Prop, number(1, -5), text(4, "a")), number(6, 6)),
		"- 5 * - 6":             node(1, api.Mul, number(1, -5), number(4, -6)),
		"a - 5":                 node(1, api.Sub, a(1), number(3, 5)),
		"a - - 5":               node(1, api.Sub, a(1), number(3, -5)),
		"7 - 5":                 node(1, api.Sub, number(1, 7), number(3, 5)),
		"- 7 - 5":               node(1, api.Sub, number(1, -7), number(4, 5)),
		"( a ) - 5":             node(2, api.Sub, a(2), number(5, 5)),
		"{ - 5 , - 6 }":         node(1, api.Make, number(2, -5), number(5, -6)),
		"a [ - 5 .. - 6 ]":      node(1, api.Slice, a(1), number(3, -5), number(6, -6)),
		"a ? - 5 | - 6":         node(1, api.Cond, a(1), number(3, -5), number(6, -6)),
		"a = - 5":               node(1, api.Set, a(1), number(3, -5)),
	} {
		expr(t, split(s), want)
	}
	shown(t, "a-5", "a - 5")
	shown(t, "a -5", "a - 5")
	shown(t, "-5-5", "(-5) - 5")
	noExpr(t, "-9223372036854775808", 1, api.ErrRange)
}

// P9.1: what has operands ahead is on the line of the first one; brackets are no part of it.
func TestLines(t *testing.T) {
	for s, want := range map[string]api.Node{
		"( a )":                   a(2),
		"( ( a ) ) + b":           node(3, api.Add, a(3), b(7)),
		"( a + b ) . c":           node(2, api.Prop, node(2, api.Add, a(2), b(4)), text(7, "c")),
		"( a ) = b":               node(2, api.Set, a(2), b(5)),
		"( { a } ) = b":           node(2, api.Scatter, a(3), b(7)),
		"{ ( a ) , @ ( b ) } = c": node(1, api.Scatter, a(3), node(6, api.Splice, b(8)), c(12)),
		"- ( a )":                 node(1, api.Neg, a(3)),
		"( a ) ? b | c":           node(2, api.Cond, a(2), b(5), c(7)),
		"( a ) [ b ]":             node(2, api.Index, a(2), b(5)),
		"( a ) [ b .. c ]":        node(2, api.Slice, a(2), b(5), c(7)),
		"( a ) : b ( )":           node(2, api.Call, a(2), text(5, "b")),
	} {
		expr(t, split(s), want)
	}
	program(t, split("( a ) ;"), node(1, api.Do, a(2)))
}

// P9.1: each statement, each word on a line of its own.
func TestStatements(t *testing.T) {
	for s, want := range map[string]api.Node{
		"a ;":                             do(a(1)),
		"return ;":                        node(1, api.Return),
		"return a ;":                      node(1, api.Return, a(2)),
		"if ( a ) endif":                  node(1, api.If, a(3), block()),
		"if ( a ) b ; c ; endif":          node(1, api.If, a(3), block(do(b(5)), do(c(7)))),
		"if ( a ) else endif":             node(1, api.If, a(3), block(), block()),
		"if ( a ) b ; else c ; endif":     node(1, api.If, a(3), block(do(b(5))), block(do(c(8)))),
		"if ( a ) elseif ( b ) c ; endif": node(1, api.If, a(3), block(), b(7), block(do(c(9)))),
		"if ( a ) elseif ( b ) elseif ( c ) else a ; endif": node(1, api.If, a(3), block(), b(7), block(), c(11), block(), block(do(a(14)))),
		"if ( a = b ) endif":                      node(1, api.If, node(3, api.Set, a(3), b(5)), block()),
		"for x in ( a ) b ; endfor":               named(1, api.ForIn, "x", a(5), block(do(b(7)))),
		"for x in [ a .. b ] endfor":              named(1, api.ForTo, "x", a(5), b(7), block()),
		"for x in ( { } ) endfor":                 named(1, api.ForIn, "x", node(5, api.Make), block()),
		"while ( a ) break ; continue ; endwhile": node(1, api.While, a(3), block(node(5, api.Break), node(7, api.Continue))),
		"fork ( a ) return ; endfork":             node(1, api.Fork, a(3), block(node(5, api.Return))),
		"try finally endtry":                      node(1, api.Finally, block(), block()),
		"try a ; finally b ; endtry":              node(1, api.Finally, block(do(a(2))), block(do(b(5)))),
		"try except ( any ) endtry":               node(1, api.Try, block(), node(2, api.Except, node(4, api.Make), block())),
		"try a ; except e ( a , b ) c ; except ( E_DIV ) endtry": node(1, api.Try, block(do(a(2))),
			named(4, api.Except, "e", node(7, api.Make, a(7), b(9)), block(do(c(11)))),
			node(13, api.Except, node(15, api.Make, literal(15, val.E(api.EDiv))), block())),
		"try try finally endtry finally endtry": node(1, api.Finally, block(node(2, api.Finally, block(), block())), block()),
	} {
		program(t, split(s), want)
		program(t, s, lined(want, func(int) int { return 1 }))
		after := func(line int) int { return line + 2 }
		program(t, split("a ; "+s), do(a(1)), lined(want, after))
		program(t, "\n\n"+split(s)+"\n", lined(want, after))
	}
	program(t, "")
	program(t, " \n \n")
}
