package parse

import (
	"inglenook/api"
	"inglenook/lex"
)

// statements reads as many as there are: up to the end, or to what may stand behind a Block.
func (p *parser) statements() []*part {
	var l []*part
	for !p.ended() && !p.closes() {
		l = append(l, p.statement())
	}
	return l
}

// closes tells whether the next word ends a Block.
func (p *parser) closes() bool {
	switch p.next() {
	case "elseif", "else", "endif", "endfor", "endwhile", "endfork", "except", "finally", "endtry":
		return true
	}
	return false
}

// block has the line of its first statement; an empty one has no word, so no line.
func (p *parser) block() *part {
	x := &part{op: api.Block, l: p.statements()}
	if len(x.l) > 0 {
		x.line = x.l[0].line
	}
	return x
}

func (p *parser) statement() *part {
	x := p.begun(api.Do)
	switch {
	case p.take("if"):
		p.branches(x)
	case p.take("for"):
		p.loop(x)
	case p.take("while"):
		x.op, x.l = api.While, p.branch()
		p.want("endwhile")
	case p.take("fork"):
		x.op, x.l = api.Fork, p.branch()
		p.want("endfork")
	case p.take("try"):
		p.try(x)
	default:
		p.simple(x)
		p.want(";")
	}
	return x
}

// simple reads a statement without a Block, up to its end.
func (p *parser) simple(x *part) {
	switch {
	case p.take("break"):
		x.op = api.Break
	case p.take("continue"):
		x.op = api.Continue
	case p.take("return"):
		x.op = api.Return
		if p.is(";") {
			return
		}
		x.l = p.one()
	default:
		x.l = p.one()
	}
}

// branch reads an expression in brackets, and a Block.
func (p *parser) branch() []*part { return []*part{p.bracketed(), p.block()} }

// branches reads what an If has.
func (p *parser) branches(x *part) {
	x.op, x.l = api.If, p.branch()
	for p.take("elseif") {
		x.add(p.branch()...)
	}
	if p.take("else") {
		x.add(p.block())
	}
	p.want("endif")
}

// loop reads what a ForIn or a ForTo has.
func (p *parser) loop(x *part) {
	x.s = p.name()
	p.want("in")
	if p.take("[") {
		x.op, x.l = api.ForTo, p.one()
		p.want("..")
		x.add(p.expr())
		p.want("]")
	} else {
		x.op = api.ForIn
		x.add(p.bracketed())
	}
	x.add(p.block())
	p.want("endfor")
}

// try reads what a Try or a Finally has.
func (p *parser) try(x *part) {
	x.add(p.block())
	if p.take("finally") {
		x.op = api.Finally
		x.add(p.block())
	} else {
		x.op = api.Try
		x.add(p.excepts()...)
	}
	p.want("endtry")
}

// excepts reads one or more.
func (p *parser) excepts() []*part {
	l := []*part{p.except()}
	for p.is("except") {
		l = append(l, p.except())
	}
	return l
}

func (p *parser) except() *part {
	x := p.begun(api.Except)
	p.want("except")
	if p.kind() == lex.Name {
		x.s = p.name()
	}
	p.want("(")
	x.add(p.codes())
	p.want(")")
	x.add(p.block())
	return x
}

// codes reads those that an Except or a Catch is for.
func (p *parser) codes() *part {
	x := p.begun(api.Make)
	if !p.take("any") {
		x.l = p.row((*parser).expr)
	}
	return x
}
