package parse

import (
	"inglenook/api"
	"inglenook/lex"
)

// operations are those of two, and how much they bind, from what binds least on.
var operations = [...]struct {
	sign      string
	op, binds int
}{
	{"||", api.Or, 1}, {"&&", api.And, 2},
	{"==", api.Eq, 3}, {"!=", api.Ne, 3}, {"<", api.Lt, 3}, {"<=", api.Le, 3}, {">", api.Gt, 3}, {">=", api.Ge, 3}, {"in", api.In, 3},
	{"+", api.Add, 4}, {"-", api.Sub, 4}, {"*", api.Mul, 5}, {"/", api.Div, 5}, {"%", api.Mod, 5},
}

// operation is what sign stands for between two, and how much it binds: 0, if it doesn't stand there.
func operation(sign string) (op, binds int) {
	for _, o := range operations {
		if o.sign == sign {
			return o.op, o.binds
		}
	}
	return 0, 0
}

// one reads an expression, as all that a part has.
func (p *parser) one() []*part { return []*part{p.expr()} }

// expr reads a whole expression. A = behind what can't be set is left where it stands, and is a fault there: nothing but a target goes on with it.
func (p *parser) expr() *part {
	x := p.cond()
	if !p.is("=") || !x.isTarget() && !x.isPattern() {
		return x
	}
	p.pass()
	return made(api.Set, x, p.expr())
}

func (p *parser) cond() *part {
	x := p.two(1)
	if !p.take("?") {
		return x
	}
	x = made(api.Cond, x, p.cond())
	p.want("|")
	x.add(p.cond())
	return x
}

// two reads operations of two that bind as much as least, or more.
func (p *parser) two(least int) *part {
	x := p.ahead()
	for {
		op, binds := operation(p.next())
		if binds < least {
			return x
		}
		p.pass()
		x = made(op, x, p.two(binds+1))
	}
}

// ahead reads what has a minus or a ! ahead, or what binds more.
func (p *parser) ahead() *part {
	x := p.begun(api.Neg)
	switch {
	case p.is("-") && !p.isNegative():
		p.pass()
	case p.take("!"):
		x.op = api.Not
	default:
		return p.behind()
	}
	x.add(p.ahead())
	return x
}

// isNegative tells whether the next words, a minus and another one, are a literal.
func (p *parser) isNegative() bool {
	return len(p.words) > 1 && p.words[1].Kind == lex.Lit && p.words[1].V.Kind == api.Int
}

// behind reads what may have something behind it.
func (p *parser) behind() *part {
	x := p.first()
	for {
		switch {
		case p.take("["):
			x = p.within(x)
		case p.take("."):
			x = made(api.Prop, x, p.nameBehind())
		case p.take(":"):
			x = made(api.Call, x, p.nameBehind())
			p.want("(")
			x.add(p.items(")")...)
		default:
			return x
		}
	}
}

// within reads an Index or a Slice of x, from behind the [ on.
func (p *parser) within(x *part) *part {
	x = made(api.Index, x, p.expr())
	if p.take("..") {
		x.op = api.Slice
		x.add(p.expr())
	}
	p.want("]")
	return x
}

// nameBehind reads the name of a Prop or of a Call: a name, or an expression in brackets.
func (p *parser) nameBehind() *part {
	if p.is("(") {
		return p.bracketed()
	}
	return p.nameAsText()
}

// nameAsText reads a name, as a Lit.
func (p *parser) nameAsText() *part {
	x := p.begun(api.Lit)
	x.v = api.Value{Kind: api.Str, S: p.name()}
	return x
}

func (p *parser) bracketed() *part {
	p.want("(")
	x := p.expr()
	p.want(")")
	return made(bracket, x)
}

// first reads what has nothing ahead and nothing behind.
func (p *parser) first() *part {
	x := p.begun(api.Lit)
	switch {
	case p.is("("):
		return p.bracketed()
	case p.take("{"):
		x.op, x.l = api.Make, p.items("}")
	case p.take("`"):
		p.catch(x)
	case p.take("$"):
		x.v.Kind = api.Obj
		return made(api.Prop, x, p.nameAsText())
	case p.take("-"):
		// Wherever no Int follows, the minus has gone to a Neg.
		x.v = p.pass().V
		x.v.N = -x.v.N
	case p.kind() == lex.Lit:
		x.v = p.pass().V
	default:
		x.op, x.s = api.Var, p.name()
		if p.take("(") {
			x.op, x.l = api.Fun, p.items(")")
		}
	}
	return x
}

// catch reads what a Catch has, up to its end.
func (p *parser) catch(x *part) {
	x.op, x.l = api.Catch, p.one()
	p.want("!")
	x.add(p.codes())
	if p.take("=>") {
		x.add(p.expr())
	}
	p.want("'")
}

// items reads items or arguments, as many as there are, and the end behind them.
func (p *parser) items(end string) []*part {
	if p.take(end) {
		return nil
	}
	l := p.row((*parser).item)
	p.want(end)
	return l
}

func (p *parser) item() *part {
	x := p.begun(api.Splice)
	if !p.take("@") {
		return p.expr()
	}
	x.l = p.one()
	return x
}

// row reads one or more, with commas between.
func (p *parser) row(read func(*parser) *part) []*part {
	l := []*part{read(p)}
	for p.take(",") {
		l = append(l, read(p))
	}
	return l
}
