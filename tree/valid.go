package tree

import (
	"math"

	"inglenook/api"
	"inglenook/val"
)

// maxNodes is how many nodes a program may have.
const maxNodes = 4096

// place is where a node stands, by what may stand there.
type place int

const (
	statement place = iota
	block
	except
	expression
	item         // an expression, or a Splice
	codes        // a Make without a Splice
	target       // what can be set
	variable     // a Var
	lastVariable // a Var, or a Splice of one
)

// valid looks at nodes that all stand at the place. How many and how deep they are is asked ahead of all else, so that it ends on nodes that hold themselves too.
func valid(l []api.Node, at place) error {
	if moreThan(maxNodes, l) {
		return api.ErrMany
	}
	if Deep(l...) > api.MaxNest {
		return api.ErrDeep
	}
	for _, n := range l {
		if err := check(n, at, false); err != nil {
			return err
		}
	}
	return nil
}

func moreThan(most int, l []api.Node) bool {
	count := 0
	for range all(l) {
		count++
		if count > most {
			return true
		}
	}
	return false
}

// check looks at a node, then at what it has. A child that may not be there is the child's fault, so the child's line is told.
func check(n api.Node, at place, inLoop bool) error {
	if !mayStand(n.Op, at, inLoop) || !hasEnough(n) || !hasRightValue(n) || n.S != "" && !isNamed(n.Op) {
		return &api.At{Pos: n.Line, Err: api.ErrShape}
	}
	if isNamed(n.Op) && !isName(n.S) && !(n.Op == api.Except && n.S == "") {
		return &api.At{Pos: n.Line, Err: api.ErrName}
	}
	switch n.Op {
	case api.ForIn, api.ForTo, api.While:
		inLoop = true
	case api.Fork:
		inLoop = false
	}
	for i, x := range n.L {
		if err := check(x, placeIn(n, at, i), inLoop); err != nil {
			return err
		}
	}
	return nil
}

func mayStand(op int, at place, inLoop bool) bool {
	switch at {
	case statement:
		return isStatement(op) && (inLoop || op != api.Break && op != api.Continue)
	case block:
		return op == api.Block
	case except:
		return op == api.Except
	case item:
		return op == api.Splice || isExpression(op)
	case codes:
		return op == api.Make
	case target:
		return op == api.Var || op == api.Prop || op == api.Index
	case variable:
		return op == api.Var
	case lastVariable:
		return op == api.Var || op == api.Splice
	}
	return isExpression(op)
}

func isStatement(op int) bool { return op >= api.Do && op <= api.Finally && op != api.Except }

func isExpression(op int) bool { return op >= api.Lit && op <= api.Catch && op != api.Splice }

func hasEnough(n api.Node) bool {
	least, most := bounds(n.Op)
	return len(n.L) >= least && len(n.L) <= most
}

// bounds is how many nodes one of op has, at least and at most.
func bounds(op int) (int, int) {
	switch op {
	case api.Lit, api.Var, api.Break, api.Continue:
		return 0, 0
	case api.Return:
		return 0, 1
	case api.Neg, api.Not, api.Splice, api.Do:
		return 1, 1
	case api.Catch:
		return 2, 3
	case api.Cond, api.Slice, api.ForTo:
		return 3, 3
	case api.Call, api.Scatter, api.If, api.Try:
		return 2, math.MaxInt
	case api.Fun, api.Make, api.Block:
		return 0, math.MaxInt
	}
	return 2, 2
}

// placeIn is the place of the i-th that n has, where n itself stands at a place.
func placeIn(n api.Node, at place, i int) place {
	last := len(n.L) - 1
	switch n.Op {
	case api.Block:
		return statement
	case api.Finally:
		return block
	case api.If:
		return either(i%2 == 1 || i == last, block, expression)
	case api.ForIn, api.ForTo, api.While, api.Fork:
		return either(i == last, block, expression)
	case api.Try:
		return either(i == 0, block, except)
	case api.Except:
		return either(i == 0, codes, block)
	case api.Catch:
		return either(i == 1, codes, expression)
	case api.Make:
		return either(at == codes, expression, item)
	case api.Fun:
		return item
	case api.Call:
		return either(i < 2, expression, item)
	case api.Splice:
		return either(at == lastVariable, variable, expression)
	case api.Set:
		return either(i == 0, target, expression)
	case api.Index:
		return either(i == 0 && at == target, target, expression)
	case api.Scatter:
		return either(i == last, expression, either(i == last-1, lastVariable, variable))
	}
	return expression
}

func either(first bool, a, b place) place {
	if first {
		return a
	}
	return b
}

// hasRightValue tells whether V is as the node has to have it.
func hasRightValue(n api.Node) bool {
	v := n.V
	switch {
	case n.Op != api.Lit:
		return sameValue(v, api.Value{})
	case v.Kind == api.List, v.Kind == api.Int && v.N == math.MinInt64:
		return false
	}
	return val.Valid(v) == nil
}

// isNamed tells whether a node of op has a name.
func isNamed(op int) bool {
	switch op {
	case api.Var, api.Fun, api.ForIn, api.ForTo, api.Except:
		return true
	}
	return false
}

// isName tells whether s is a name that is no key.
func isName(s string) bool {
	if s == "" || len(s) > api.MaxName || isDigit(s[0]) || isKey(s) {
		return false
	}
	for i := range len(s) {
		if c := s[i]; !isDigit(c) && c != '_' && (c < 'a' || c > 'z') {
			return false
		}
	}
	return true
}

func isDigit(c byte) bool { return c >= '0' && c <= '9' }

// isKey knows the keys by itself: this layer doesn't stand on package lex. A test holds them against lex.Keys.
func isKey(s string) bool {
	switch s {
	case "if", "elseif", "else", "endif", "for", "in", "endfor", "while", "endwhile", "break", "continue",
		"return", "fork", "endfork", "try", "except", "finally", "endtry", "any":
		return true
	}
	return false
}
