package parse

import "inglenook/api"

// bracket is the op of what stands in brackets. It is no node, but it counts for how deep all is nested.
const bracket = -1

// part is a node as it is read. What is handed on is a pointer to it: a text may be nested as deep as it is long, so each level has to be small. A Scatter is a Set of a Make.
type part struct {
	op, line int
	s        string
	v        api.Value
	l        []*part
}

// made is a part of what has an operand ahead: it is on the line of that.
func made(op int, l ...*part) *part { return &part{op: op, line: l[0].line, l: l} }

// begun is a part that begins with the next word.
func (p *parser) begun(op int) *part { return &part{op: op, line: p.line()} }

func (x *part) add(l ...*part) { x.l = append(x.l, l...) }

// open is what stands in the brackets, if x is such.
func (x *part) open() *part {
	for x.op == bracket {
		x = x.l[0]
	}
	return x
}

// isTarget tells whether x may be what a Set sets.
func (x *part) isTarget() bool {
	for x = x.open(); x.op == api.Index; {
		x = x.l[0].open()
	}
	return x.op == api.Var || x.op == api.Prop
}

// isPattern tells whether x may be what a Scatter sets.
func (x *part) isPattern() bool {
	x = x.open()
	if x.op != api.Make || len(x.l) == 0 {
		return false
	}
	for i, item := range x.l {
		item = item.open()
		if item.op == api.Splice && i == len(x.l)-1 {
			item = item.l[0].open()
		}
		if item.op != api.Var {
			return false
		}
	}
	return true
}

// deep is how deep the parts are nested, brackets too.
func deep(l []*part) int {
	deepest := 0
	for _, x := range l {
		deepest = max(deepest, 1+deep(x.l))
	}
	return deepest
}

// nodes makes the nodes of parts, without brackets.
func nodes(l []*part) []api.Node {
	if len(l) == 0 {
		return nil
	}
	out := make([]api.Node, len(l))
	for i, x := range l {
		out[i] = x.open().node()
	}
	return out
}

func (x *part) node() api.Node {
	if x.op == api.Set && x.l[0].open().op == api.Make {
		return api.Node{Op: api.Scatter, Line: x.line, L: nodes(append(x.l[0].open().l, x.l[1]))}
	}
	return api.Node{Op: x.op, Line: x.line, S: x.s, V: x.v, L: nodes(x.l)}
}
