package tree_test

import (
	"fmt"
	"iter"
	"math"
	"reflect"
	"slices"
	"strings"
	"testing"

	"inglenook/api"
	"inglenook/tree"
	"inglenook/val"
)

// program is some of everything: a call makes it anew.
func program() nodes {
	return nodes{
		on(2, do(node(api.Set, node(api.Index, node(api.Prop, literal(val.O(0)), literal(val.S("x y"))), one()), node(api.Make, one(), node(api.Splice, variable("b")))))),
		on(3, named(api.ForIn, "item", node(api.Make), block(node(api.If, variable("a"), block(on(4, node(api.Break))), block(node(api.Continue)))))),
		on(5, named(api.ForTo, "j", one(), literal(val.E(3)), block())),
		on(6, node(api.Try, block(do(variable("a"))), named(api.Except, "", node(api.Make), block()), named(api.Except, "e", node(api.Make, literal(val.E(2))), block()))),
		on(7, do(node(api.Scatter, variable("c"), node(api.Splice, variable("_d")), named(api.Fun, "fun", variable("a"))))),
		on(8, node(api.Return)),
	}
}

// odd is a program that is none: values that are no literals, lists where none may be.
func odd() nodes {
	return nodes{
		{Op: api.Var, Line: 1, S: "a", V: val.L(val.I(1), val.L(val.S("x"))), L: nodes{literal(val.L(val.L(val.O(1))))}},
		{Op: 99, Line: -1, S: "\n", V: api.Value{Kind: 7, N: 1, S: "y", L: []api.Value{val.L(val.I(2))}}},
	}
}

// flat is all nodes of l, each ahead of what it has.
func flat(l nodes) nodes {
	var out nodes
	for _, n := range l {
		out = append(append(out, n), flat(n.L)...)
	}
	return out
}

// spoil writes into every list of l, into the spare room too.
func spoil(l nodes) {
	l = l[:cap(l)]
	for i := range l {
		spoil(l[i].L)
		spoilValues(l[i].V.L)
		l[i] = api.Node{Op: -5, S: "spoilt"}
	}
}

func spoilValues(l []api.Value) {
	l = l[:cap(l)]
	for i := range l {
		spoilValues(l[i].L)
		l[i] = val.S("spoilt")
	}
}

func is(t *testing.T, what string, got, want nodes) {
	t.Helper()
	if len(got) != len(want) || len(got) > 0 && !reflect.DeepEqual(got, want) {
		t.Errorf("%s: %v, not %v", what, got, want)
	}
}

// P7.1: Same tells each field of each node, but for the lines.
func TestSame(t *testing.T) {
	for _, made := range []func() nodes{program, odd} {
		for i := range flat(made()) {
			change := func(what string, same bool, f func(n *api.Node)) {
				l := made()
				f(at(l, i))
				if tree.Same(l, made()) != same || tree.Same(made(), l) != same {
					t.Errorf("node %d: %s: %v", i, what, !same)
				}
			}
			change("nothing", true, func(n *api.Node) {})
			change("the line", true, func(n *api.Node) { n.Line += 7 })
			change("Op", false, func(n *api.Node) { n.Op++ })
			change("S", false, func(n *api.Node) { n.S += "q" })
			change("V.Kind", false, func(n *api.Node) { n.V.Kind++ })
			change("V.N", false, func(n *api.Node) { n.V.N++ })
			change("V.S", false, func(n *api.Node) { n.V.S += "q" })
			change("V.L", false, func(n *api.Node) { n.V.L = append(n.V.L, val.I(0)) })
			change("L", false, func(n *api.Node) { n.L = append(n.L, one()) })
			change("all of L", len(flat(made())[i].L) == 0, func(n *api.Node) { n.L = nil })
			change("L as an empty one", len(flat(made())[i].L) == 0, func(n *api.Node) { n.L = nodes{} })
		}
	}
	deep := odd()
	deep[0].V.L[1].L[0].S = "z"
	if tree.Same(deep, odd()) {
		t.Error("a value within")
	}
}

// at is the i-th of flat(l), in l itself.
func at(l nodes, i int) *api.Node {
	for k := range l {
		if i == 0 {
			return &l[k]
		}
		if size := len(flat(l[k].L)); i <= size {
			return at(l[k].L, i-1)
		} else {
			i -= size + 1
		}
	}
	panic("no such node")
}

// P7.1: Same of lists that are longer, empty, turned.
func TestSameLists(t *testing.T) {
	l := program()
	for i, x := range []struct {
		a, b nodes
		want bool
	}{
		{nil, nil, true}, {nil, nodes{}, true}, {nodes{}, nil, true},
		{l, l, true}, {l, nil, false}, {nil, l, false},
		{l, l[:5], false}, {l[:5], l, false}, {l[1:], l, false},
		{l[:2], nodes{l[1], l[0]}, false}, {nodes{{}}, nil, false}, {nodes{{}}, nodes{{Line: 4}}, true},
		{nodes{one()}, nodes{variable("a")}, false}, {nodes{literal(val.I(1))}, nodes{literal(val.O(1))}, false},
	} {
		if tree.Same(x.a, x.b) != x.want {
			t.Errorf("%d: %v", i, !x.want)
		}
	}
}

// P7.1, P0.4: Clone is the same, lines too, in new memory.
func TestClone(t *testing.T) {
	for _, made := range []func() nodes{program, odd} {
		l := made()
		c := tree.Clone(l)
		is(t, "a clone", c, made())
		d := tree.Clone(l)
		spoil(c)
		is(t, "what was handed in", l, made())
		is(t, "another clone", d, made())
		spoil(l)
		is(t, "a clone of what was changed later", d, made())
	}
	if len(tree.Clone(nil)) != 0 || len(tree.Clone(nodes{})) != 0 {
		t.Error("a clone of nothing")
	}
	shared := nodes{one(), variable("a"), node(99)}
	c := tree.Clone(nodes{node(api.Make, shared[:1]...), node(api.Make, shared[:1]...)})
	c[0].L = append(c[0].L, node(98))
	c[0].L[0].V.N = 7
	if c[1].L[0].V.N != 1 || shared[0].V.N != 1 || shared[1].Op != api.Var || shared[2].Op != 99 {
		t.Errorf("they share memory: %v, %v", c, shared)
	}
}

// P7.1: Count and Deep.
func TestCountAndDeep(t *testing.T) {
	for i, x := range []struct {
		l           nodes
		count, deep int
	}{
		{nil, 0, 0}, {nodes{}, 0, 0}, {nodes{one()}, 1, 1}, {nodes{{}}, 1, 1}, {nodes{one(), one()}, 2, 1},
		{nodes{do(one())}, 2, 2}, {nodes{one(), do(one())}, 3, 2}, {nodes{do(one()), one()}, 3, 2},
		{nodes{node(api.Make, one(), node(api.Neg, one()), one())}, 5, 3},
		{nodes{node(api.Make, node(api.Neg, one()), one()), do(one())}, 6, 3},
		{nodes{chain(39, one())}, 40, 40}, {nodes{one(), chain(99, one()), chain(5, one())}, 107, 100},
		{nodes{literal(val.L(val.L(val.L())))}, 1, 1},
		{program(), len(flat(program())), 5}, {odd(), 3, 2},
		{slices.Repeat(nodes{do(one())}, 5000), 10000, 2},
		{nodes{chain(1<<16-1, one())}, 1 << 16, 1 << 16},
	} {
		if tree.Count(x.l...) != x.count || tree.Deep(x.l...) != x.deep {
			t.Errorf("%d: %d nodes, not %d; %d deep, not %d", i, tree.Count(x.l...), x.count, tree.Deep(x.l...), x.deep)
		}
	}
	if len(flat(program())) != 43 {
		t.Errorf("%d nodes", len(flat(program())))
	}
}

// P7.1: Vars has the names of Var, ForIn, ForTo and Except, by bytes, each once.
func TestVars(t *testing.T) {
	for i, x := range []struct {
		l    nodes
		want string
	}{
		{nil, ""}, {nodes{one()}, ""}, {nodes{variable("a")}, "a"}, {nodes{variable("a"), variable("a")}, "a"},
		{program(), "_d a b c e item j"},
		{nodes{variable("b"), variable("a"), variable("b"), variable("a")}, "a b"},
		{nodes{named(api.ForIn, "i", variable("l"), block(do(variable("i"))))}, "i l"},
		{nodes{named(api.ForTo, "t", variable("l"), variable("k"), block())}, "k l t"},
		{nodes{node(api.Try, block(), except(), named(api.Except, "x", node(api.Make, variable("w")), block(do(variable("v")))))}, "v w x"},
		{nodes{do(named(api.Fun, "f", variable("x")))}, "x"},
		{nodes{do(node(api.Call, variable("o"), literal(val.S("verb"))))}, "o"},
		{nodes{variable("a_"), variable("a0"), variable("aa"), variable("a"), variable("_"), variable("_9"), variable("z")}, "_ _9 a a0 a_ aa z"},
		{nodes{chain(1<<16-1, variable("deep"))}, "deep"},
	} {
		before := tree.Clone(x.l)
		got := tree.Vars(x.l...)
		if strings.Join(got, " ") != x.want {
			t.Errorf("%d: %q, not %q", i, got, x.want)
		}
		is(t, "what was handed in", x.l, before)
		for k := range got[:cap(got)] {
			got[:cap(got)][k] = "spoilt"
		}
		if again := strings.Join(tree.Vars(x.l...), " "); again != x.want {
			t.Errorf("%d: %q, once more", i, again)
		}
	}
}

// gather is what a walk hands out.
func gather(each iter.Seq[api.Node]) nodes {
	var out nodes
	for n := range each {
		out = append(out, n)
	}
	return out
}

// P7.1: Each goes through all nodes, each ahead of what it has, with all that it has; several times.
func TestEach(t *testing.T) {
	for i, l := range []nodes{nil, {}, {one()}, {one(), variable("a")}, program(), odd(), {chain(99, one())}, slices.Repeat(program(), 50)} {
		each := tree.Each(l...)
		for range 3 {
			is(t, fmt.Sprint(i), gather(each), flat(l))
		}
	}
}

// P7.1: a walk may be left early, at each node; and the next one begins anew.
func TestEachLeft(t *testing.T) {
	want := flat(program())
	each := tree.Each(program()...)
	for stop := range len(want) {
		var got nodes
		for n := range each {
			got = append(got, n)
			if len(got) == stop+1 {
				break
			}
		}
		is(t, fmt.Sprint("left at ", stop), got, want[:stop+1])
	}
	calls := 0
	each(func(api.Node) bool {
		calls++
		return calls < 9
	})
	if calls != 9 {
		t.Errorf("%d calls", calls)
	}
}

// P7.1: walks within walks don't meet.
func TestEachInEach(t *testing.T) {
	want := flat(program())
	each := tree.Each(program()...)
	outer := 0
	for n := range each {
		is(t, "the inner walk", gather(each), want)
		is(t, "the outer walk", nodes{n}, want[outer:outer+1])
		outer++
	}
	if outer != len(want) {
		t.Errorf("%d nodes", outer)
	}
}

// P7.1, P0.4: each node is its own; Each keeps nothing of what it was handed.
func TestEachMemory(t *testing.T) {
	for _, made := range []func() nodes{program, odd} {
		l := made()
		want := flat(made())
		each := tree.Each(l...)
		got := gather(each)
		for i := range got {
			spoil(nodes{got[i]})
			is(t, "the nodes behind", got[i+1:], want[i+1:])
		}
		is(t, "what was handed in", l, made())
		i := 0
		for n := range each {
			is(t, "a walk that writes", nodes{n}, want[i:i+1])
			spoil(nodes{n})
			i++
		}
		spoil(l)
		is(t, "a walk later", gather(each), want)
	}
}

// P0.1: Same, Clone and Each go as deep as programs may be handed in.
func TestFarDown(t *testing.T) {
	l := nodes{chain(1<<16-1, one())}
	if c := tree.Clone(l); !tree.Same(l, c) || tree.Same(l, c[0].L) {
		t.Error("a clone")
	}
	count := 0
	for n := range tree.Each(l...) {
		if count++; count == 9 || n.Op != api.Neg {
			break
		}
	}
	if count != 9 || tree.Valid(l...) != api.ErrMany || tree.Expr(literal(val.I(math.MaxInt64))) != nil {
		t.Errorf("%d nodes", count)
	}
}
