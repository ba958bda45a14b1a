package show

import (
	"inglenook/api"
	"inglenook/lit"
	"inglenook/tree"
)

// signs are those that stand between two, by their ops.
var signs = [...]string{
	api.Add: "+", api.Sub: "-", api.Mul: "*", api.Div: "/", api.Mod: "%",
	api.Eq: "==", api.Ne: "!=", api.Lt: "<", api.Le: "<=", api.Gt: ">", api.Ge: ">=",
	api.In: "in", api.And: "&&", api.Or: "||",
}

// whole puts an expression that needs no brackets where it stands.
func (w *writer) whole(n api.Node) {
	arguments := n.L
	switch n.Op {
	case api.Lit:
		w.put(lit.Text(n.V))
	case api.Var:
		w.put(n.S)
	case api.Neg:
		w.put("-")
		// A minus and the Int behind it would be a literal.
		w.bracket(n.L[0], isLoose(n.L[0]) || beginsWithDigit(n.L[0]))
	case api.Not:
		w.put("!")
		w.part(n.L[0])
	case api.Cond:
		w.parts(n.L, " ? ", " | ")
	case api.Index, api.Slice:
		w.part(n.L[0])
		w.put("[")
		w.list(n.L[1:], "..")
		w.put("]")
	case api.Prop:
		w.part(n.L[0])
		w.put(".")
		w.name(n.L[1])
	case api.Call:
		w.part(n.L[0])
		w.put(":")
		w.name(n.L[1])
		arguments = n.L[2:]
		fallthrough
	case api.Fun:
		// A Call has no S: its name is written already.
		w.put(n.S, "(")
		w.list(arguments, ", ")
		w.put(")")
	case api.Make:
		w.braces(n.L)
	case api.Splice:
		w.put("@")
		w.whole(n.L[0])
	case api.Set:
		w.list(n.L, " = ")
	case api.Scatter:
		last := len(n.L) - 1
		w.braces(n.L[:last])
		w.put(" = ")
		w.whole(n.L[last])
	case api.Catch:
		w.catch(n)
	default:
		w.parts(n.L, " "+signs[n.Op]+" ")
	}
}

// part puts an expression within another one that would bind what is in it otherwise.
func (w *writer) part(n api.Node) { w.bracket(n, isLoose(n)) }

func (w *writer) bracket(n api.Node, needed bool) {
	if needed {
		w.put("(")
	}
	w.whole(n)
	if needed {
		w.put(")")
	}
}

// isLoose tells whether n stands in brackets within another expression.
func isLoose(n api.Node) bool {
	switch n.Op {
	case api.Lit:
		return (n.V.Kind == api.Int || n.V.Kind == api.Obj) && n.V.N < 0
	case api.Cond, api.Set, api.Scatter:
		return true
	}
	return n.Op >= api.Neg && n.Op <= api.Or
}

// beginsWithDigit tells whether the text of n does, n not being loose.
func beginsWithDigit(n api.Node) bool {
	switch n.Op {
	case api.Lit:
		return n.V.Kind == api.Int && n.V.N >= 0
	case api.Index, api.Slice, api.Prop, api.Call:
		return beginsWithDigit(n.L[0])
	}
	return false
}

// parts puts parts with the i-th of between behind the i-th.
func (w *writer) parts(l []api.Node, between ...string) {
	for i, n := range l {
		if i > 0 {
			w.put(between[i-1])
		}
		w.part(n)
	}
}

func (w *writer) list(l []api.Node, between string) {
	for i, n := range l {
		if i > 0 {
			w.put(between)
		}
		w.whole(n)
	}
}

func (w *writer) braces(l []api.Node) {
	w.put("{")
	w.list(l, ", ")
	w.put("}")
}

// name puts the name of a Prop or of a Call.
func (w *writer) name(n api.Node) {
	if n.Op == api.Lit && n.V.Kind == api.Str && isName(n.V.S) {
		w.put(n.V.S)
		return
	}
	w.bracket(n, true)
}

// isName tells whether s is a name that is no key: one that a variable may have.
func isName(s string) bool { return tree.Expr(api.Node{Op: api.Var, S: s}) == nil }

func (w *writer) catch(n api.Node) {
	w.put("`")
	w.part(n.L[0])
	w.put(" ! ")
	w.codes(n.L[1])
	if len(n.L) > 2 {
		w.put(" => ")
		w.part(n.L[2])
	}
	w.put("'")
}

// codes puts those that an Except or a Catch is for.
func (w *writer) codes(n api.Node) {
	if len(n.L) == 0 {
		w.put("any")
	}
	w.list(n.L, ", ")
}
