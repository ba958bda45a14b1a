package tree_test

import (
	"errors"
	"math"
	"reflect"
	"slices"
	"strings"
	"testing"

	"inglenook/api"
	"inglenook/lex"
	"inglenook/tree"
	"inglenook/val"
)

type nodes = []api.Node

// node is a node on line 1.
func node(op int, l ...api.Node) api.Node { return api.Node{Op: op, Line: 1, L: l} }

func named(op int, s string, l ...api.Node) api.Node { return api.Node{Op: op, Line: 1, S: s, L: l} }

func literal(v api.Value) api.Node { return api.Node{Op: api.Lit, Line: 1, V: v} }

func one() api.Node { return literal(val.I(1)) }

func variable(s string) api.Node { return named(api.Var, s) }

func do(n api.Node) api.Node { return node(api.Do, n) }

func splice() api.Node { return node(api.Splice, variable("s")) }

func block(l ...api.Node) api.Node { return node(api.Block, l...) }

func loop(l ...api.Node) api.Node { return node(api.While, one(), block(l...)) }

func except() api.Node { return named(api.Except, "", node(api.Make), block()) }

func on(line int, n api.Node) api.Node {
	n.Line = line
	return n
}

// fault is the error around its line; nil, if there is none.
func fault(line int, err error) error {
	if err == nil {
		return nil
	}
	return &api.At{Pos: line, Err: err}
}

func asks(t *testing.T, what string, got, want error) {
	t.Helper()
	if !reflect.DeepEqual(got, want) {
		t.Errorf("%s: %v, not %v", what, got, want)
	}
}

// anOp is a node of op that is as it has to be, and may stand wherever one of op may.
func anOp(op int) api.Node {
	switch op {
	case api.Lit:
		return one()
	case api.Var:
		return variable("a")
	case api.Neg, api.Not, api.Do:
		return node(op, one())
	case api.Cond, api.Slice:
		return node(op, one(), one(), one())
	case api.Index, api.Set:
		return node(op, variable("a"), one())
	case api.Fun:
		return named(op, "f")
	case api.Make, api.Break, api.Continue, api.Return, api.Block:
		return node(op)
	case api.Splice:
		return splice()
	case api.Scatter:
		return node(op, variable("a"), one())
	case api.Catch:
		return node(op, one(), node(api.Make))
	case api.If, api.While, api.Fork:
		return node(op, one(), block())
	case api.ForIn:
		return named(op, "i", one(), block())
	case api.ForTo:
		return named(op, "i", one(), one(), block())
	case api.Try:
		return node(op, block(), except())
	case api.Except:
		return except()
	case api.Finally:
		return node(op, block(), block())
	}
	if op >= api.Neg && op < api.Catch {
		return node(op, one(), one())
	}
	return node(op)
}

func expressions() []int {
	var out []int
	for op := api.Lit; op <= api.Catch; op++ {
		if op != api.Splice {
			out = append(out, op)
		}
	}
	return out
}

func statements() []int {
	return []int{api.Do, api.If, api.ForIn, api.ForTo, api.While, api.Return, api.Fork, api.Try, api.Finally}
}

func inLoops() []int { return append(statements(), api.Break, api.Continue) }

func items() []int { return append(expressions(), api.Splice) }

// spot is a place in a program, and what may stand there.
type spot struct {
	name string
	with func(x api.Node) nodes
	may  []int
}

func statementSpots() []spot {
	of := func(name string, f func(x api.Node) api.Node, may []int) spot {
		return spot{name, func(x api.Node) nodes { return nodes{f(x)} }, may}
	}
	return []spot{
		{"the program", func(x api.Node) nodes { return nodes{x} }, statements()},
		{"the program, later", func(x api.Node) nodes { return nodes{loop(), x} }, statements()},
		of("a Block of an If", func(x api.Node) api.Node { return node(api.If, one(), block(x)) }, statements()),
		of("a Block of a Try", func(x api.Node) api.Node { return node(api.Try, block(x), except()) }, statements()),
		of("a Block of an Except", func(x api.Node) api.Node {
			return node(api.Try, block(), named(api.Except, "e", node(api.Make), block(x)))
		}, statements()),
		of("a Block of a Finally", func(x api.Node) api.Node { return node(api.Finally, block(x), block()) }, statements()),
		of("the last Block of a Finally", func(x api.Node) api.Node { return node(api.Finally, block(), block(x)) }, statements()),
		of("a Fork", func(x api.Node) api.Node { return node(api.Fork, one(), block(x)) }, statements()),
		of("a While", func(x api.Node) api.Node { return loop(x) }, inLoops()),
		of("a ForIn", func(x api.Node) api.Node { return named(api.ForIn, "i", one(), block(do(one()), x)) }, inLoops()),
		of("a ForTo", func(x api.Node) api.Node { return named(api.ForTo, "i", one(), one(), block(x)) }, inLoops()),
		of("a Fork in a loop", func(x api.Node) api.Node { return loop(node(api.Fork, one(), block(x))) }, statements()),
		of("behind a Fork in a loop", func(x api.Node) api.Node { return loop(node(api.Fork, one(), block()), x) }, inLoops()),
		of("an If in a Fork in a loop", func(x api.Node) api.Node {
			return loop(node(api.Fork, one(), block(node(api.If, one(), block(x)))))
		}, statements()),
		of("a loop in a Fork", func(x api.Node) api.Node { return node(api.Fork, one(), block(loop(x))) }, inLoops()),
		of("behind a loop in a Fork", func(x api.Node) api.Node { return node(api.Fork, one(), block(loop(), x)) }, statements()),
		of("Ifs in a loop", func(x api.Node) api.Node {
			return loop(node(api.If, one(), block(), block(node(api.If, one(), block(), one(), block(x)))))
		}, inLoops()),
		of("a Try in a loop", func(x api.Node) api.Node { return loop(node(api.Try, block(x), except())) }, inLoops()),
		of("an Except in a loop", func(x api.Node) api.Node {
			return loop(node(api.Try, block(), except(), named(api.Except, "e", node(api.Make), block(x))))
		}, inLoops()),
		of("a Finally in a loop", func(x api.Node) api.Node { return loop(node(api.Finally, block(), block(x))) }, inLoops()),
		of("a loop in a loop", func(x api.Node) api.Node { return loop(loop(), x) }, inLoops()),
	}
}

// partSpots is the places that a statement has for what is no statement.
func partSpots() []spot {
	of := func(name string, f func(x api.Node) api.Node, may ...int) spot {
		return spot{name, func(x api.Node) nodes { return nodes{f(x)} }, may}
	}
	e := expressions()
	return []spot{
		of("Do's", do, e...),
		of("Return's", func(x api.Node) api.Node { return node(api.Return, x) }, e...),
		of("If's condition", func(x api.Node) api.Node { return node(api.If, x, block()) }, e...),
		of("If's condition ahead of more", func(x api.Node) api.Node { return node(api.If, x, block(), block()) }, e...),
		of("If's Block", func(x api.Node) api.Node { return node(api.If, one(), x) }, api.Block),
		of("If's first Block of two", func(x api.Node) api.Node { return node(api.If, one(), x, block()) }, api.Block),
		of("If's last Block", func(x api.Node) api.Node { return node(api.If, one(), block(), x) }, api.Block),
		of("elseif's condition", func(x api.Node) api.Node { return node(api.If, one(), block(), x, block()) }, e...),
		of("elseif's Block", func(x api.Node) api.Node { return node(api.If, one(), block(), one(), x) }, api.Block),
		of("If's fifth", func(x api.Node) api.Node { return node(api.If, one(), block(), one(), block(), x) }, api.Block),
		of("ForIn's list", func(x api.Node) api.Node { return named(api.ForIn, "i", x, block()) }, e...),
		of("ForIn's Block", func(x api.Node) api.Node { return named(api.ForIn, "i", one(), x) }, api.Block),
		of("ForTo's from", func(x api.Node) api.Node { return named(api.ForTo, "i", x, one(), block()) }, e...),
		of("ForTo's to", func(x api.Node) api.Node { return named(api.ForTo, "i", one(), x, block()) }, e...),
		of("ForTo's Block", func(x api.Node) api.Node { return named(api.ForTo, "i", one(), one(), x) }, api.Block),
		of("While's condition", func(x api.Node) api.Node { return node(api.While, x, block()) }, e...),
		of("While's Block", func(x api.Node) api.Node { return node(api.While, one(), x) }, api.Block),
		of("Fork's seconds", func(x api.Node) api.Node { return node(api.Fork, x, block()) }, e...),
		of("Fork's Block", func(x api.Node) api.Node { return node(api.Fork, one(), x) }, api.Block),
		of("Try's Block", func(x api.Node) api.Node { return node(api.Try, x, except()) }, api.Block),
		of("Try's Except", func(x api.Node) api.Node { return node(api.Try, block(), x) }, api.Except),
		of("Try's second Except", func(x api.Node) api.Node { return node(api.Try, block(), except(), x) }, api.Except),
		of("Except's codes", func(x api.Node) api.Node {
			return node(api.Try, block(), named(api.Except, "", x, block()))
		}, api.Make),
		of("Except's code", func(x api.Node) api.Node {
			return node(api.Try, block(), named(api.Except, "", node(api.Make, one(), x), block()))
		}, e...),
		of("Except's Block", func(x api.Node) api.Node {
			return node(api.Try, block(), named(api.Except, "", node(api.Make), x))
		}, api.Block),
		of("Finally's Block", func(x api.Node) api.Node { return node(api.Finally, x, block()) }, api.Block),
		of("Finally's last Block", func(x api.Node) api.Node { return node(api.Finally, block(), x) }, api.Block),
	}
}

func expressionSpots() []spot {
	of := func(name string, f func(x api.Node) api.Node, may ...int) spot {
		return spot{name, func(x api.Node) nodes { return nodes{do(f(x))} }, may}
	}
	e, it := expressions(), items()
	targets := []int{api.Var, api.Prop, api.Index}
	out := []spot{
		of("Neg's", func(x api.Node) api.Node { return node(api.Neg, x) }, e...),
		of("Not's", func(x api.Node) api.Node { return node(api.Not, x) }, e...),
		of("a Make's first", func(x api.Node) api.Node { return node(api.Make, x, one()) }, it...),
		of("a Make's last", func(x api.Node) api.Node { return node(api.Make, one(), x) }, it...),
		of("a Splice's", func(x api.Node) api.Node { return node(api.Make, node(api.Splice, x)) }, e...),
		of("an argument's Splice's", func(x api.Node) api.Node { return named(api.Fun, "f", node(api.Splice, x)) }, e...),
		of("an argument of a Fun", func(x api.Node) api.Node { return named(api.Fun, "f", x, one()) }, it...),
		of("the last argument of a Fun", func(x api.Node) api.Node { return named(api.Fun, "f", one(), x) }, it...),
		of("Call's object", func(x api.Node) api.Node { return node(api.Call, x, one()) }, e...),
		of("Call's name", func(x api.Node) api.Node { return node(api.Call, one(), x) }, e...),
		of("Call's name ahead of more", func(x api.Node) api.Node { return node(api.Call, one(), x, one()) }, e...),
		of("an argument of a Call", func(x api.Node) api.Node { return node(api.Call, one(), one(), x) }, it...),
		of("a later argument of a Call", func(x api.Node) api.Node { return node(api.Call, one(), one(), splice(), x) }, it...),
		of("Set's target", func(x api.Node) api.Node { return node(api.Set, x, one()) }, targets...),
		of("Set's right", func(x api.Node) api.Node { return node(api.Set, variable("a"), x) }, e...),
		of("an Index that is set", func(x api.Node) api.Node {
			return node(api.Set, node(api.Index, x, one()), one())
		}, targets...),
		of("an Index of an Index that is set", func(x api.Node) api.Node {
			return node(api.Set, node(api.Index, node(api.Index, x, one()), one()), one())
		}, targets...),
		of("the index that is set", func(x api.Node) api.Node {
			return node(api.Set, node(api.Index, variable("a"), x), one())
		}, e...),
		of("an Index in an index that is set", func(x api.Node) api.Node {
			return node(api.Set, node(api.Index, variable("a"), node(api.Index, x, one())), one())
		}, e...),
		of("an Index at Set's right", func(x api.Node) api.Node {
			return node(api.Set, variable("a"), node(api.Index, x, one()))
		}, e...),
		of("the object of a Prop that is set", func(x api.Node) api.Node {
			return node(api.Set, node(api.Prop, x, one()), one())
		}, e...),
		of("the name of a Prop that is set", func(x api.Node) api.Node {
			return node(api.Set, node(api.Prop, one(), x), one())
		}, e...),
		of("the only one of a Scatter", func(x api.Node) api.Node { return node(api.Scatter, x, one()) }, api.Var, api.Splice),
		of("the first of a Scatter", func(x api.Node) api.Node { return node(api.Scatter, x, variable("b"), one()) }, api.Var),
		of("one ahead of a Scatter's Splice", func(x api.Node) api.Node {
			return node(api.Scatter, variable("a"), x, splice(), one())
		}, api.Var),
		of("the last of a Scatter", func(x api.Node) api.Node {
			return node(api.Scatter, variable("a"), variable("b"), x, one())
		}, api.Var, api.Splice),
		of("a Scatter's Splice's", func(x api.Node) api.Node {
			return node(api.Scatter, variable("a"), node(api.Splice, x), one())
		}, api.Var),
		of("a Scatter's list", func(x api.Node) api.Node { return node(api.Scatter, variable("a"), x) }, e...),
		of("a Scatter's list's Splice's", func(x api.Node) api.Node {
			return node(api.Scatter, variable("a"), node(api.Make, node(api.Splice, x)))
		}, e...),
		of("what a Catch has", func(x api.Node) api.Node { return node(api.Catch, x, node(api.Make)) }, e...),
		of("a Catch's codes", func(x api.Node) api.Node { return node(api.Catch, one(), x) }, api.Make),
		of("a Catch's codes ahead of more", func(x api.Node) api.Node { return node(api.Catch, one(), x, one()) }, api.Make),
		of("a Catch's code", func(x api.Node) api.Node { return node(api.Catch, one(), node(api.Make, x, one())) }, e...),
		of("a Make in a Catch's code", func(x api.Node) api.Node {
			return node(api.Catch, one(), node(api.Make, node(api.Make, x)))
		}, it...),
		of("what a Catch has instead", func(x api.Node) api.Node { return node(api.Catch, one(), node(api.Make), x) }, e...),
	}
	pairs := []int{api.And, api.Or, api.Index, api.Prop}
	for op := api.Add; op <= api.In; op++ {
		pairs = append(pairs, op)
	}
	for _, op := range pairs {
		out = append(out,
			of("the left of two", func(x api.Node) api.Node { return node(op, x, one()) }, e...),
			of("the right of two", func(x api.Node) api.Node { return node(op, one(), x) }, e...))
	}
	for _, op := range []int{api.Cond, api.Slice} {
		out = append(out,
			of("the first of three", func(x api.Node) api.Node { return node(op, x, one(), one()) }, e...),
			of("the second of three", func(x api.Node) api.Node { return node(op, one(), x, one()) }, e...),
			of("the third of three", func(x api.Node) api.Node { return node(op, one(), one(), x) }, e...))
	}
	return out
}

// ops is all ops, and some that are none.
func ops() []int {
	out := []int{math.MinInt, math.MinInt32, -1, 255, 256 + api.Var, 1<<32 + api.Var, math.MaxInt}
	for op := range 70 {
		out = append(out, op)
	}
	return out
}

// P7.1: at each place each op: what may not stand there is ErrShape around its own line.
func TestPlaces(t *testing.T) {
	for _, s := range slices.Concat(statementSpots(), partSpots(), expressionSpots()) {
		for _, op := range ops() {
			var want error
			if !slices.Contains(s.may, op) {
				want = fault(5, api.ErrShape)
			}
			l := s.with(on(5, anOp(op)))
			if got := tree.Valid(l...); !reflect.DeepEqual(got, want) {
				t.Errorf("%s: op %d: %v, not %v", s.name, op, got, want)
			}
			if l[0].Op == api.Do {
				asks(t, "Expr, "+s.name, tree.Expr(l[0].L[0]), want)
			}
		}
	}
}

// P7.1: Expr takes an expression alone.
func TestExprPlace(t *testing.T) {
	for _, op := range ops() {
		var want error
		if !slices.Contains(expressions(), op) {
			want = fault(5, api.ErrShape)
		}
		if got := tree.Expr(on(5, anOp(op))); !reflect.DeepEqual(got, want) {
			t.Errorf("op %d: %v, not %v", op, got, want)
		}
	}
	asks(t, "a node of nothing", tree.Expr(api.Node{}), fault(0, api.ErrShape))
}

// P7.1: one that has fewer, or more, than it has to have is ErrShape around its line.
func TestCounts(t *testing.T) {
	const many = 999
	ones := func(n int) nodes { return slices.Repeat(nodes{one()}, n) }
	ends := func(x api.Node) func(int) nodes {
		return func(n int) nodes { return append(ones(max(n-1, 0)), x)[:n] }
	}
	starts := func(x api.Node, f func(int) nodes) func(int) nodes {
		return func(n int) nodes { return append(nodes{x}, f(max(n-1, 0))...)[:n] }
	}
	ifs := func(n int) nodes {
		l := slices.Repeat(nodes{one(), block()}, n)[:n]
		if n%2 == 1 {
			l[n-1] = block()
		}
		return l
	}
	codes := func(n int) nodes { return append(nodes{one(), node(api.Make)}, ones(n)...)[:n] }
	vars := func(n int) nodes { return slices.Repeat(nodes{variable("a")}, n) }
	excepts := func(n int) nodes { return slices.Repeat(nodes{except()}, n) }
	blocks := func(n int) nodes { return slices.Repeat(nodes{block()}, n) }
	dos := func(n int) nodes { return slices.Repeat(nodes{do(one())}, n) }
	for _, x := range []struct {
		op, least, most int
		kids            func(int) nodes
	}{
		{api.Lit, 0, 0, ones}, {api.Var, 0, 0, ones}, {api.Neg, 1, 1, ones}, {api.Not, 1, 1, ones},
		{api.Add, 2, 2, ones}, {api.Sub, 2, 2, ones}, {api.Mul, 2, 2, ones}, {api.Div, 2, 2, ones}, {api.Mod, 2, 2, ones},
		{api.Eq, 2, 2, ones}, {api.Ne, 2, 2, ones}, {api.Lt, 2, 2, ones}, {api.Le, 2, 2, ones}, {api.Gt, 2, 2, ones}, {api.Ge, 2, 2, ones},
		{api.In, 2, 2, ones}, {api.And, 2, 2, ones}, {api.Or, 2, 2, ones}, {api.Cond, 3, 3, ones},
		{api.Index, 2, 2, ones}, {api.Slice, 3, 3, ones}, {api.Prop, 2, 2, ones},
		{api.Call, 2, many, ones}, {api.Fun, 0, many, ones}, {api.Make, 0, many, ones}, {api.Splice, 1, 1, ones},
		{api.Set, 2, 2, starts(variable("a"), ones)}, {api.Scatter, 2, many, vars}, {api.Catch, 2, 3, codes},
		{api.Do, 1, 1, ones}, {api.If, 2, many, ifs}, {api.ForIn, 2, 2, ends(block())}, {api.ForTo, 3, 3, ends(block())}, {api.While, 2, 2, ends(block())},
		{api.Break, 0, 0, dos}, {api.Continue, 0, 0, dos}, {api.Return, 0, 1, ones}, {api.Fork, 2, 2, ends(block())},
		{api.Try, 2, many, starts(block(), excepts)}, {api.Except, 2, 2, starts(node(api.Make), blocks)}, {api.Finally, 2, 2, blocks}, {api.Block, 0, many, dos},
	} {
		for _, n := range []int{0, 1, 2, 3, 4, 5, 6, 7, 8, 500} {
			var want error
			if n < x.least || n > x.most {
				want = fault(5, api.ErrShape)
			}
			tried := on(5, anOp(x.op))
			if tried.L = x.kids(n); len(tried.L) != n {
				t.Fatalf("op %d: %d, not %d", x.op, len(tried.L), n)
			}
			if got := tree.Valid(inPlace(tried)...); !reflect.DeepEqual(got, want) {
				t.Errorf("op %d with %d: %v, not %v", x.op, n, got, want)
			}
		}
	}
}

// inPlace is a program with n where one such may stand.
func inPlace(n api.Node) nodes {
	switch n.Op {
	case api.Splice:
		return nodes{do(node(api.Make, n))}
	case api.Except:
		return nodes{node(api.Try, block(), n)}
	case api.Block:
		return nodes{node(api.While, one(), n)}
	}
	if n.Op <= api.Catch {
		return nodes{do(n)}
	}
	return nodes{loop(n)}
}

// P7.1: what a node has is looked at ahead of what that has; and there: an If with a Block too few in the end is none, but its last one is no Block.
func TestNodeByNode(t *testing.T) {
	bad, worse := on(5, node(api.Add)), on(6, node(99))
	noName := on(7, variable("A"))
	for what, x := range map[string]struct {
		l    nodes
		want error
	}{
		"an If of a condition, a Block, a condition": {nodes{node(api.If, one(), block(), on(5, one()))}, fault(5, api.ErrShape)},
		"an If of two conditions":                    {nodes{node(api.If, on(4, one()), on(5, one()))}, fault(5, api.ErrShape)},
		"an If of two Blocks":                        {nodes{node(api.If, on(4, block()), on(5, block()))}, fault(4, api.ErrShape)},
		"the first of two":                           {nodes{do(bad), do(worse)}, fault(5, api.ErrShape)},
		"the first of two, turned":                   {nodes{do(worse), do(bad)}, fault(6, api.ErrShape)},
		"a name ahead of a shape":                    {nodes{do(noName), do(bad)}, fault(7, api.ErrName)},
		"a shape ahead of a name":                    {nodes{do(bad), do(noName)}, fault(5, api.ErrShape)},
		"a name within, ahead of the next":           {nodes{do(node(api.Neg, noName)), worse}, fault(7, api.ErrName)},
		"a node ahead of what it has":                {nodes{on(3, node(api.Do, worse, noName))}, fault(3, api.ErrShape)},
		"a node's name ahead of what it has":         {nodes{on(3, named(api.ForIn, "A", worse, noName))}, fault(3, api.ErrName)},
		"a node's shape ahead of its name":           {nodes{do(on(3, named(api.Var, "A", one())))}, fault(3, api.ErrShape)},
		"a node's place ahead of its name":           {nodes{on(3, variable("A"))}, fault(3, api.ErrShape)},
		"a node's V ahead of its name":               {nodes{do(api.Node{Op: api.Var, Line: 3, V: val.I(1)})}, fault(3, api.ErrShape)},
		"a place ahead of a count":                   {nodes{do(on(4, node(api.Block, worse)))}, fault(4, api.ErrShape)},
		"the left ahead of the right":                {nodes{do(node(api.Add, noName, worse))}, fault(7, api.ErrName)},
		"what is deep on the left first":             {nodes{do(node(api.Add, node(api.Neg, node(api.Neg, bad)), worse))}, fault(5, api.ErrShape)},
		"a line below 0":                             {nodes{on(-3, node(api.Break))}, fault(-3, api.ErrShape)},
		"the greatest line":                          {nodes{do(on(math.MaxInt, variable("")))}, fault(math.MaxInt, api.ErrName)},
		"lines don't matter":                         {nodes{on(9, do(on(-1, one()))), on(0, do(on(math.MinInt, one())))}, nil},
		"a Splice in codes":                          {nodes{do(node(api.Catch, one(), node(api.Make, one(), on(5, splice()))))}, fault(5, api.ErrShape)},
		"a Break alone":                              {nodes{on(5, node(api.Break))}, fault(5, api.ErrShape)},
	} {
		asks(t, what, tree.Valid(x.l...), x.want)
	}
	asks(t, "nothing", tree.Valid(), nil)
	asks(t, "an empty list", tree.Valid(nodes{}...), nil)
}

// holders is a program for each op that has a name, with that one on line 5.
func holders(s string) map[int]nodes {
	out := map[int]nodes{}
	for _, op := range []int{api.Var, api.Fun, api.ForIn, api.ForTo, api.Except} {
		n := on(5, anOp(op))
		n.S = s
		out[op] = inPlace(n)
	}
	return out
}

// P7.1: ErrName around the line of one whose name is none, or a key; an Except may have no name.
func TestNames(t *testing.T) {
	long := strings.Repeat("a", api.MaxName)
	for _, s := range []string{"a", "z", "_", "__", "a0", "_9", "x_y", "e_div", "ifs", "iff", "en", "any_", "_any", "anyone", "e", "this", "pass", long, "_" + long[1:]} {
		for op, l := range holders(s) {
			if err := tree.Valid(l...); err != nil {
				t.Errorf("op %d: %q: %v", op, s, err)
			}
		}
	}
	bad := []string{"A", "aB", "Z9", "0", "9a", "0_", " ", "a ", " a", "a b", "a-b", "a.b", "\x00", "a\x00", "a\n", "é", "E_DIV", "If", "IF", "@a", "a`", "a{", "/", ":", "a/", "a:", long + "a", long + long, "_" + long, "1" + long[1:]}
	for _, s := range append(bad, lex.Keys()...) {
		for op, l := range holders(s) {
			if err := tree.Valid(l...); !reflect.DeepEqual(err, fault(5, api.ErrName)) {
				t.Errorf("op %d: %q: %v", op, s, err)
			}
		}
	}
	for op, l := range holders("") {
		var want error
		if op != api.Except {
			want = fault(5, api.ErrName)
		}
		if err := tree.Valid(l...); !reflect.DeepEqual(err, want) {
			t.Errorf("op %d without a name: %v", op, err)
		}
	}
	if len(lex.Keys()) != 19 {
		t.Errorf("%d keys", len(lex.Keys()))
	}
}

// P7.1: a name of one byte, or with one behind, by all bytes.
func TestNameBytes(t *testing.T) {
	for b := range 256 {
		c := byte(b)
		small := c >= 'a' && c <= 'z' || c == '_'
		digit := c >= '0' && c <= '9'
		for s, is := range map[string]bool{string([]byte{c}): small, string([]byte{'q', c}): small || digit, string([]byte{c, 'q'}): small, string([]byte{'q', c, 'q'}): small || digit} {
			var want error
			if !is {
				want = fault(1, api.ErrName)
			}
			if err := tree.Expr(variable(s)); !reflect.DeepEqual(err, want) {
				t.Errorf("%q: %v", s, err)
			}
		}
	}
}

// P7.1: one that is not named has no S; one that is no Lit no V.
func TestNothingBeside(t *testing.T) {
	for op := api.Lit; op <= api.Block; op++ {
		n := on(5, anOp(op))
		if op > api.Catch && op < api.Do {
			continue
		}
		asks(t, "as it has to be", tree.Valid(inPlace(n)...), nil)
		if !slices.Contains([]int{api.Var, api.Fun, api.ForIn, api.ForTo, api.Except}, op) {
			for _, s := range []string{"a", "A", " ", "if"} {
				n.S = s
				asks(t, "a name too much", tree.Valid(inPlace(n)...), fault(5, api.ErrShape))
			}
			n.S = ""
		}
		if op == api.Lit {
			continue
		}
		for _, v := range []api.Value{val.I(1), val.I(-1), val.O(0), val.S(""), val.S("a"), val.E(0), val.L(), val.L(val.I(1)), {S: "a"}, {L: []api.Value{{}}}, {Kind: -1}, {Kind: 5}} {
			n.V = v
			asks(t, "a value too much", tree.Valid(inPlace(n)...), fault(5, api.ErrShape))
		}
		n.V = api.Value{L: []api.Value{}}
		asks(t, "an empty list is nothing", tree.Valid(inPlace(n)...), nil)
	}
}

// P7.1: a Lit has a right value, no List, and not the least Int.
func TestLiterals(t *testing.T) {
	for _, v := range []api.Value{
		{}, val.I(1), val.I(-1), val.I(math.MaxInt64), val.I(math.MinInt64 + 1),
		val.O(0), val.O(-1), val.O(math.MaxInt32), val.O(math.MinInt32),
		val.S(""), val.S(" ~\"\\"), val.S("if"), val.S(strings.Repeat("a", api.MaxSize-1)),
		val.E(0), val.E(14), {L: []api.Value{}},
	} {
		asks(t, "a right one", tree.Expr(on(5, literal(v))), nil)
	}
	self := val.L(val.I(1))
	self.L[0] = self
	for _, v := range []api.Value{
		val.I(math.MinInt64), val.L(), val.L(val.I(1)), val.L(val.L()), self, {Kind: api.List, N: 1}, {Kind: api.List, S: "a"},
		val.O(math.MaxInt32 + 1), val.O(math.MinInt32 - 1), {Kind: api.Obj, N: math.MinInt64}, val.E(-1), val.E(15), {Kind: -1}, {Kind: 5},
		val.S("\n"), val.S("a\x7f"), val.S("é"), val.S(strings.Repeat("a", api.MaxSize)),
		{S: "a"}, {N: 1, L: []api.Value{{}}}, {Kind: api.Str, S: "a", N: 1}, {Kind: api.Str, L: []api.Value{{}}}, {Kind: api.Obj, S: "a"}, {Kind: api.Err, L: []api.Value{{}}},
	} {
		asks(t, "one that may not be", tree.Expr(on(5, literal(v))), fault(5, api.ErrShape))
		asks(t, "one that may not be", tree.Valid(do(on(5, literal(v)))), fault(5, api.ErrShape))
	}
}

// chain is x in so many Negs.
func chain(n int, x api.Node) api.Node {
	for range n {
		x = node(api.Neg, x)
	}
	return x
}

// P7.1: ErrMany above 4096 nodes, ErrDeep above MaxNest; these ahead of all else, and in this order.
func TestLimits(t *testing.T) {
	ones := func(n int) api.Node { return node(api.Make, slices.Repeat(nodes{one()}, n)...) }
	dos := func(n int) nodes { return slices.Repeat(nodes{do(one())}, n) }
	blocks := func(n int) api.Node {
		l := block()
		for range n {
			l = block(loop(l.L...))
		}
		return node(api.While, one(), l)
	}
	for what, x := range map[string]struct {
		l    nodes
		want error
	}{
		"2048 statements":                {dos(2048), nil},
		"2048 statements and one more":   {append(dos(2048), node(api.Return)), api.ErrMany},
		"4096 Returns":                   {slices.Repeat(nodes{node(api.Return)}, 4096), nil},
		"4097 Returns":                   {slices.Repeat(nodes{node(api.Return)}, 4097), api.ErrMany},
		"4096 in one":                    {nodes{do(ones(4094))}, nil},
		"4097 in one":                    {nodes{do(ones(4095))}, api.ErrMany},
		"4096 in two":                    {nodes{do(ones(1000)), do(ones(3092))}, nil},
		"4097 in two":                    {nodes{do(ones(1000)), do(ones(3093))}, api.ErrMany},
		"40 deep":                        {nodes{do(chain(38, one()))}, nil},
		"41 deep":                        {nodes{do(chain(39, one()))}, api.ErrDeep},
		"40 deep, behind another":        {nodes{do(one()), do(chain(38, one()))}, nil},
		"41 deep, behind another":        {nodes{do(one()), do(chain(39, one())), do(one())}, api.ErrDeep},
		"40 deep by Blocks":              {nodes{blocks(19)}, nil},
		"42 deep by Blocks":              {nodes{blocks(20)}, api.ErrDeep},
		"4096 that are deep":             {nodes{do(chain(4094, one()))}, api.ErrDeep},
		"many ahead of deep":             {nodes{do(chain(4095, one()))}, api.ErrMany},
		"many ahead of a shape":          {slices.Repeat(nodes{node(99)}, 4097), api.ErrMany},
		"a shape of 4096":                {slices.Repeat(nodes{node(99)}, 4096), fault(1, api.ErrShape)},
		"deep ahead of a shape":          {nodes{node(99), do(chain(39, one()))}, api.ErrDeep},
		"deep ahead of a name":           {nodes{do(variable("A")), do(chain(39, one()))}, api.ErrDeep},
		"a shape that is 40 deep":        {nodes{do(chain(38, on(5, node(99))))}, fault(5, api.ErrShape)},
		"a name that is 40 deep":         {nodes{do(chain(38, on(5, variable("if"))))}, fault(5, api.ErrName)},
		"what may not be is counted too": {nodes{do(node(api.Lit, slices.Repeat(nodes{one()}, 4095)...))}, api.ErrMany},
		"what may not be is deep too":    {nodes{do(node(api.Lit, chain(38, one())))}, api.ErrDeep},
	} {
		asks(t, what, tree.Valid(x.l...), x.want)
	}
	asks(t, "Expr of 4096", tree.Expr(ones(4095)), nil)
	asks(t, "Expr of 4097", tree.Expr(ones(4096)), api.ErrMany)
	asks(t, "Expr, 40 deep", tree.Expr(chain(39, one())), nil)
	asks(t, "Expr, 41 deep", tree.Expr(chain(40, one())), api.ErrDeep)
	asks(t, "Expr, a shape and many", tree.Expr(node(api.Splice, ones(4096))), api.ErrMany)
	asks(t, "Expr, a shape and deep", tree.Expr(node(api.Splice, chain(39, one()))), api.ErrDeep)
}

// P7.1, P0.1: Valid and Expr end on nodes that hold themselves, or are far too many.
func TestValidEnds(t *testing.T) {
	self := nodes{node(api.While, one(), block())}
	self[0].L[1].L = self
	ring := node(api.Neg, one())
	ring.L[0] = ring
	wide := one()
	for range 2000 {
		wide = node(api.Make, wide, wide, wide)
	}
	for _, n := range []api.Node{self[0], ring, wide} {
		asks(t, "Valid", tree.Valid(n), api.ErrMany)
		asks(t, "Expr", tree.Expr(n), api.ErrMany)
	}
}

// P0.2: the errors are found through the one around them; those without a line are as they are.
func TestErrorsAsk(t *testing.T) {
	err := tree.Valid(on(4, node(api.Continue)))
	var at *api.At
	if !errors.Is(err, api.ErrShape) || !errors.As(err, &at) || at.Pos != 4 {
		t.Error(err)
	}
	if err := tree.Expr(chain(40, one())); errors.As(err, &at) || err != api.ErrDeep {
		t.Error(err)
	}
}

// P0.4: Valid and Expr change nothing, and look at nothing behind the lengths.
func TestValidLeaves(t *testing.T) {
	make3 := func() nodes { return nodes{one(), splice(), node(99)} }
	l := nodes{do(node(api.Make, make3()[:2]...)), loop(), node(99)}
	want := tree.Clone(l)
	asks(t, "behind the lengths", tree.Valid(l[:2]...), nil)
	tree.Valid(l...)
	tree.Expr(l[0].L[0])
	if !reflect.DeepEqual(l, want) || l[0].L[0].L[:3][2].Op != 99 {
		t.Errorf("they left %v", l)
	}
}
