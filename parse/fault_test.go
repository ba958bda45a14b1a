package parse_test

import (
	"errors"
	"slices"
	"strings"
	"testing"

	"inglenook/api"
	"inglenook/lex"
	"inglenook/parse"
	"inglenook/val"
)

// marked is the words of s, and which one of them, from 1 on, stands between < and >; 0: none.
func marked(s string) ([]string, int) {
	words, at := strings.Fields(s), 0
	for i, w := range words {
		if len(w) > 2 && strings.HasPrefix(w, "<") && strings.HasSuffix(w, ">") {
			at, words[i] = i+1, w[1:len(w)-1]
		}
	}
	return words, at
}

// P9.1: with the word between < and > no program goes on, and with those ahead of it one does.
func TestFaults(t *testing.T) {
	for _, s := range slices.Concat(faultsOfExprs(), faultsOfTargets(), faultsOfStatements()) {
		words, at := marked(s)
		noProgram(t, strings.Join(words, "\n"), at, api.ErrSyntax)
		noProgram(t, strings.Join(words, " "), 1, api.ErrSyntax)
		noProgram(t, strings.Join(words[:at], "\n\n"), 2*at-1, api.ErrSyntax)
		noProgram(t, "a;\n"+strings.Join(words, "\n")+"\n}", at+1, api.ErrSyntax)
	}
}

func faultsOfExprs() []string {
	return []string{
		"<}>", "<*> a ;", "<,>", "<..>", "<=>>", "<'>", "<|>", "<in> a ;", "<any> ;",
		"a <b> ;", "a <1> ;", "1 <a> ;", "a ; b <c> ;", `"a" <"b"> ;`,
		"( <)> ;", "( a <;>", "( a <b> ) ;", "( a <,> b ) ;", "( <@> a ) ;", "( a <]> ;", "a <)> ;",
		"a + <;>", "a + <*> b ;", "a <!> b ;", "a || <||> b ;", "a + <,>", "- <;>", "! <;>", "- <*> a ;", "a in <in> b ;",
		"a ? <|> b ;", "a ? b <;>", "a ? b : <;>", "a ? b | <;>", "a <|> b ;", "a ? b | c <|> d ;",
		"a [ <]> ;", "a [ b <;>", "a [ b <,> c ] ;", "a [ b .. <]> ;", "a [ b .. c <..> d ] ;", "a [ <..> b ] ;", "a [ <@> b ] ;", "a <]> ;", "<[> a ] ;",
		"a . <;>", "a . <1> ;", `a . <"b"> ;`, "a . <if> ;", "a . <any> ;", "a . <#1> ;", "a . <$> b ;", "a . ( <)> ;", "a . ( b <;>", "a . b <(> ) ;", "a <..> b ;",
		"a : <;>", "a : <1> ( ) ;", "a : <for> ( ) ;", "a : b <;>", "a : b <.> c ;", "a : ( b ) <;>", "a : b ( <,> ) ;", "a : b ( c <;>", "a : b ( c , <)> ;",
		"f ( <,> ) ;", "f ( a <b> ) ;", "f ( a , <)> ;", "f ( a <}> ;", "f ( ) <(> ) ;", "( f ) <(> ) ;", "f ( <any> ) ;", "f ( @ <@> a ) ;", "f ( @ <)> ;", "f ( a <;>",
		"{ <,> } ;", "{ a , <}> ;", "{ a <;>", "{ a <)> ;", "{ @ <}> ;", "{ @ <,> a } ;", "{ a <b> } ;", "<@> a ;", "{ a + <@> b } ;",
		"$ <1> ;", "$ <(> a ) ;", "$ <if> ;", "$ <;>", "$ <$> a ;", "$ a <b> ;", "a <$> b ;",
		"` a <'> ;", "` ! <any> ' ;", "` a ! <'> ;", "` a ! any <,> b ' ;", "` a ! b , <any> ' ;", "` a ! b , <'> ;", "` a ! b , <=>> c ' ;", "` a ! any => <'> ;",
		"` a ! any => b <;>", "` a ! any <;>", "` a ! any <any> ' ;", "` a ! <@> b ' ;", "` a ! b => c <=>> d ' ;", "` a <=>> b ' ;", "a <'> ;", "a <=>> b ;", "a <`> ;",
	}
}

func faultsOfTargets() []string {
	return []string{
		"<=> a ;", "1 <=> 2 ;", `"a" <=> b ;`, "E_DIV <=> b ;", "#1 <=> b ;", "- 5 <=> c ;", "- a <=> b ;", "! a <=> b ;",
		"a + b <=> c ;", "a && b <=> c ;", "a in b <=> c ;", "a = b + c <=> d ;", "a = 1 <=> d ;", "a ? b | c <=> d ;", "a ? b <=> c | d ;", "( a = b ) <=> c ;",
		"f ( ) <=> a ;", "a : b ( ) <=> c ;", "` a ! any ' <=> a ;", "a [ 1 .. 2 ] <=> c ;",
		"f ( ) [ 1 ] <=> a ;", "a : b ( ) [ 1 ] <=> c ;", "a [ 1 .. 2 ] [ 3 ] <=> c ;", "( a + b ) [ 1 ] <=> c ;", "{ a } [ 1 ] <=> a ;", "( a = b ) [ 1 ] <=> c ;", `"a" [ 1 ] [ 2 ] <=> c ;`, "- a [ 1 ] <=> b ;", "- 5 [ 1 ] <=> b ;",
		"{ } <=> a ;", "{ 1 } <=> a ;", "{ a , 1 } <=> a ;", "{ 1 , a } <=> a ;", "{ a , b . c } <=> a ;", "{ a , b [ 1 ] } <=> a ;", "{ a , $ b } <=> a ;", "{ a , { b } } <=> a ;", "{ - a } <=> a ;", "{ a = b } <=> c ;", "{ a + b } <=> c ;", "{ f ( ) } <=> c ;",
		"{ @ a , b } <=> c ;", "{ a , @ b , @ c } <=> a ;", "{ a , @ b . c } <=> a ;", "{ @ { a } } <=> a ;", "{ @ 1 } <=> a ;", "{ a } + b <=> a ;", "a + { b } <=> a ;", "! { a } <=> b ;",
		"a = <=> b ;", "a = <;>", "{ a } = <;>", "a . b = <)> ;", "a == <=> b ;",
	}
}

func faultsOfStatements() []string {
	return []string{
		"<;>", "a ; <;>", "return <return> ;", "return a <return> ;", "break <a> ;", "continue <1> ;", "break <break>", "return <endif>",
		"<elseif> ( a ) endif", "<else> endif", "<endif>", "<endfor>", "<endwhile>", "<endfork>", "<except> ( any )", "<finally>", "<endtry>", "a ; <endtry>",
		"if <a> ;", "if ( <)>", "if ( a <;>", "if ( a ) <)>", "if ( a ) <;>", "if ( a ) b <endif>", "if ( a ) <endfor>", "if ( a ) <endtry>", "if ( a ) <except> ( any )", "if ( a ) <finally>",
		"if ( a ) elseif <b>", "if ( a ) else <elseif> ( b ) endif", "if ( a ) else <else> endif", "if ( a ) else <endwhile>", "if ( a ) endif <;>", "if ( a ) endif <endif>", "if ( a <,> b )",
		"for <in> ( a ) endfor", "for <if> in ( a ) endfor", "for <1> in ( a ) endfor", "for <(> a ) endfor", "for x <(> a ) endfor", "for x in <a> endfor", "for x in <{> a } endfor", "for x in ( <)> endfor",
		"for x in ( a <..> b ) endfor", "for x in ( a <,> b ) endfor", "for x in [ a <]> endfor", "for x in [ a <,> b ]", "for x in [ a .. <]> endfor", "for x in [ a .. b <)> endfor", "for x in [ a .. b <..> c ]",
		"for x in ( a ) <endif>", "for x in ( a ) <endwhile>", "for x in ( a ) <else> endfor", "for x <,> y in ( a )", "for x <.> y",
		"while <a> endwhile", "while ( <)> endwhile", "while ( a ) <endfor>", "while ( a ) <elseif> ( b )", "while ( a ) endwhile <endwhile>",
		"fork <a> endfork", "fork <x> ( a ) endfork", "fork ( a ) <endwhile>", "fork ( a ) <finally>",
		"try <endtry>", "try a ; <endtry>", "try a ; <endif>", "try <else>", "try finally <finally> endtry", "try finally <except> ( any ) endtry", "try except ( any ) <finally> endtry", "try except ( any ) <endif>", "try finally <endif>",
		"try except <any>", "try except x <any>", "try except x <y> ( any )", "try except <1> ( any )", "try except <if> ( any )", "try except ( <)>", "try except ( any <,> a )", "try except ( a , <any> )", "try except ( a <;>", "try except ( <@> a )", "try except ( a , <)>", "try except ( any ) endtry <endtry>",
		"try except <;>", "try except x <;>", "try a ; try <endtry>",
	}
}

// P9.1: where it ends too early, the line is that of the last word; 1, if there is none.
func TestEnds(t *testing.T) {
	for _, s := range []string{
		"a", "a +", "-", "- 5", "!", "( a", "( a )", "a [", "a [ b", "a [ b ..", "a [ b .. c", "a .", "a . (", "a . b", "a :", "a : b", "a : b (", "a : b ( c ,", "f (", "f ( a", "f ( @",
		"{", "{ a", "{ a ,", "{ }", "$", "$ a", "`", "` a", "` a !", "` a ! any", "` a ! b ,", "` a ! b =>", "` a ! b => c", "` a ! any '", "a ?", "a ? b", "a ? b |", "a ? b | c", "a =", "a = b", "{ a } =", "a in",
		"return", "return a", "break", "continue", "if", "if (", "if ( a", "if ( a )", "if ( a ) b ;", "if ( a ) elseif", "if ( a ) else", "if ( a ) else b ;",
		"for", "for x", "for x in", "for x in (", "for x in ( a", "for x in ( a )", "for x in [", "for x in [ a", "for x in [ a ..", "for x in [ a .. b", "for x in [ a .. b ]",
		"while", "while ( a )", "fork", "fork ( a )", "try", "try a ;", "try finally", "try except", "try except x", "try except (", "try except ( any", "try except ( a", "try except ( a )", "try except ( any ) except",
		"a ; if ( a ) while ( b ) try fork ( c ) d ; endfork",
	} {
		words := strings.Fields(s)
		noProgram(t, s, 1, api.ErrSyntax)
		noProgram(t, strings.Join(words, "\n"), len(words), api.ErrSyntax)
		noProgram(t, "\n"+strings.Join(words, "\n")+"\n\n", len(words)+1, api.ErrSyntax)
		noProgram(t, "a;"+strings.Join(words, "\n\n")+"  \n", 2*len(words)-1, api.ErrSyntax)
	}
	for _, s := range []string{"", " ", "\n", "\n\n  \n"} {
		noExpr(t, s, 1, api.ErrSyntax)
	}
	for _, s := range []string{"a +", "( a", "a ?", "a ? b", "f (", "{", "$", "a =", "- -", "`", "a .", "a : b"} {
		words := strings.Fields(s)
		noExpr(t, strings.Join(words, "\n"), len(words), api.ErrSyntax)
		noExpr(t, "\n"+strings.Join(words, "\n\n")+"\n\n", 2*len(words), api.ErrSyntax)
	}
}

// P9.1: an expression is one, and nothing stands behind it.
func TestExprFaults(t *testing.T) {
	for _, s := range []string{
		"a <;>", "a <b>", "a <1>", "a <,> b", "a <)>", "<;>", "<@> a", "<return>", "<return> a", "<if> ( a ) endif", "<any>", "<break>", "( a ) <(>", "f ( ) <(>", "1 <=> 2",
		"a <endif>", "{ a } <{> b }", "` a ! any ' <'>", "a ? b | c <|> d", "a [ 1 ] <]>", "{ @ a , b } <=> c",
	} {
		words, at := marked(s)
		noExpr(t, strings.Join(words, "\n"), at, api.ErrSyntax)
		noExpr(t, "\n\n"+strings.Join(words[:at], "\n"), at+2, api.ErrSyntax)
	}
}

// P9.1: what lex tells goes up as it is, ahead of all else.
func TestLexErrors(t *testing.T) {
	for _, s := range []string{
		"a;\n~", "a;\n\"", "\n\n01", ";\n;\nA", "a\n\t", "(\n9223372036854775808", "= =\n\n#2147483648", "-9223372036854775808",
		strings.Repeat("(", 500) + "\n9223372036854775808", strings.Repeat("a;", 5000) + "\n\n~",
		strings.Repeat(" ", api.MaxText+1), strings.Repeat(";", api.MaxText+1), strings.Repeat("~", api.MaxText+1),
	} {
		_, want := lex.All(s)
		line := 0
		var at *api.At
		if errors.As(want, &at) {
			line, want = at.Pos, at.Err
		}
		if want == nil {
			t.Errorf("%.20q is words", s)
		}
		noProgram(t, s, line, want)
		noExpr(t, s, line, want)
	}
}

// P9.1: what tree tells goes up as it is.
func TestTreeErrors(t *testing.T) {
	for s, line := range map[string]int{
		"break;": 1, "\ncontinue;": 2, "a;\nif (a)\nbreak;\nendif": 3, "while (a)\nfork (b)\ncontinue;\nendfork\nendwhile": 3,
		"while (a)\nendwhile\nbreak;": 3, "try\nexcept (any)\nbreak;\nendtry": 3,
		"a = \"" + strings.Repeat("b", api.MaxSize) + "\";":    1,
		"a =\n\"" + strings.Repeat("b", api.MaxSize) + "\";":   2,
		"\n\n\"" + strings.Repeat("b", api.MaxSize+99) + "\";": 3,
	} {
		noProgram(t, s, line, api.ErrShape)
	}
	program(t, "\""+strings.Repeat("b", api.MaxSize-1)+"\";", do(text(1, strings.Repeat("b", api.MaxSize-1))))
	noExpr(t, "a +\n\""+strings.Repeat("b", api.MaxSize)+"\"", 2, api.ErrShape)
	expr(t, "\""+strings.Repeat("b", api.MaxSize-1)+"\"", text(1, strings.Repeat("b", api.MaxSize-1)))
	if l, err := parse.Program(strings.Repeat("a;", 2048)); len(l) != 2048 || err != nil {
		t.Error(len(l), err)
	}
	noProgram(t, strings.Repeat("a;", 2048)+"return;", 0, api.ErrMany)
	if n, err := parse.Expr("{" + strings.Repeat("a,", 4094) + "a}"); len(n.L) != 4095 || err != nil {
		t.Error(len(n.L), err)
	}
	noExpr(t, "{"+strings.Repeat("a,", 4095)+"a}", 0, api.ErrMany)
	noProgram(t, "break;"+strings.Repeat("a;", 2048), 0, api.ErrMany)
	// The brackets are no nodes.
	if l, err := parse.Program(strings.Repeat("((a));", 2048)); len(l) != 2048 || err != nil {
		t.Error(len(l), err)
	}
}

// P9.1: a program is MaxNest deep at most; what is read, with the brackets, four times as much.
func TestDeep(t *testing.T) {
	in := func(n int, ahead, behind string) string {
		return strings.Repeat(ahead, n) + "a" + strings.Repeat(behind, n)
	}
	for n := range 4 * api.MaxNest {
		expr(t, in(n, "(", ")"), a(1))
	}
	for _, n := range []int{4 * api.MaxNest, 4*api.MaxNest + 1, 1000, api.MaxText/2 - 1} {
		noExpr(t, in(n, "(", ")"), 0, api.ErrDeep)
		noProgram(t, in(n, "(", ")")+";", 0, api.ErrDeep)
	}
	for _, x := range [][2]string{
		{"-", ""}, {"!", ""}, {"{", "}"}, {"f(", ")"}, {"a[", "]"}, {"a[b..", "]"}, {"a.(", ")"}, {"a:b(", ")"}, {"a=", ""}, {"{a}=", ""}, {"a+(", ")"}, {"", "+a"}, {"", ".b"}, {"", "[1]"}, {"", ":b()"},
		{"a?b|", ""}, {"a?", "|b"}, {"`", "!any'"}, {"`a!any=>", "'"}, {"(", "?b|c)"},
	} {
		if n, err := parse.Expr(in(api.MaxNest-1, x[0], x[1])); err != nil || len(n.L) == 0 {
			t.Error(x, err)
		}
		noExpr(t, in(api.MaxNest, x[0], x[1]), 0, api.ErrDeep)
		noExpr(t, in(5*api.MaxNest, x[0], x[1]), 0, api.ErrDeep)
	}
	for _, x := range [][2]string{
		{"if (1) ", " endif"}, {"while (1) ", " endwhile"}, {"fork (1) ", " endfork"}, {"for i in (a) ", " endfor"}, {"for i in [1..2] ", " endfor"}, {"try ", " finally endtry"}, {"try ", " except (any) endtry"}, {"if (1) else ", " endif"},
	} {
		// A statement and its Block are two; a Do and its Var two more.
		most := (api.MaxNest - 2) / 2
		within := func(n int) string { return strings.Repeat(x[0], n) + "a;" + strings.Repeat(x[1], n) }
		if l, err := parse.Program(within(most)); len(l) != 1 || err != nil {
			t.Error(x, err)
		}
		noProgram(t, within(most+1), 0, api.ErrDeep)
		noProgram(t, within(500), 0, api.ErrDeep)
	}
}

// P9.1: the errors in their order: ErrSyntax, ErrDeep of what is nested too deep, tree's ErrMany, its ErrDeep, the others.
func TestOrder(t *testing.T) {
	deep := func(n int) string { return strings.Repeat("(", n) + "a" + strings.Repeat(")", n) }
	lists := func(n int) string { return strings.Repeat("{", n) + "}" + strings.Repeat("}", n-1) }
	many := strings.Repeat("a;", 2048)
	noProgram(t, deep(500)+"\nb;", 2, api.ErrSyntax)
	noProgram(t, deep(500)+";\nb", 2, api.ErrSyntax)
	noProgram(t, many+lists(500)+"\n;\n;", 3, api.ErrSyntax)
	noProgram(t, "break;"+many+"\n}", 2, api.ErrSyntax)
	noProgram(t, strings.Repeat("(", api.MaxText-2)+"\n(", 2, api.ErrSyntax)
	noProgram(t, strings.Repeat("{@", api.MaxText/2-1)+"\n(", 2, api.ErrSyntax)
	noProgram(t, strings.Repeat("try ", api.MaxText/4-1)+"\ntry", 2, api.ErrSyntax)
	noProgram(t, many+deep(4*api.MaxNest)+";", 0, api.ErrDeep)
	noProgram(t, many+lists(4*api.MaxNest)+";", 0, api.ErrDeep)
	noProgram(t, strings.Repeat("a+", 5000)+"a;", 0, api.ErrDeep)
	noProgram(t, "break;"+deep(4*api.MaxNest)+";", 0, api.ErrDeep)
	noProgram(t, many+lists(4*api.MaxNest-1)+";", 0, api.ErrMany)
	noProgram(t, "break;"+lists(api.MaxNest)+";", 0, api.ErrDeep)
	noProgram(t, "break;"+lists(api.MaxNest-1)+";", 1, api.ErrShape)
	noExpr(t, deep(500)+"\nb", 2, api.ErrSyntax)
	noExpr(t, "{"+strings.Repeat("a,", 4096)+deep(4*api.MaxNest)+"}", 0, api.ErrDeep)
	noExpr(t, "{"+strings.Repeat("a,", 4096)+lists(50)+"}", 0, api.ErrMany)
}

// P0.2: an error is found through the line around it, and its line too.
func TestErrorsAsk(t *testing.T) {
	for s, want := range map[string]error{"a;\n;": api.ErrSyntax, "a;\n#2147483648": api.ErrRange, "a;\nbreak;": api.ErrShape} {
		_, err := parse.Program(s)
		var at *api.At
		if !errors.Is(err, want) || !errors.As(err, &at) || at.Pos != 2 {
			t.Errorf("%q: %v", s, err)
		}
	}
}

// P0.4: each answer is new memory, spare room too, and no list of one shows what is written into another one.
func TestMemory(t *testing.T) {
	const s = "if (a) f(b, @c); {a, b} = {c}; elseif (`a ! b => c') else a[b..c].x = -1; endif try except e (a) endtry return $x:y(1, 2);"
	want, err := parse.Program(s)
	if err != nil {
		t.Fatal(err)
	}
	spoil(want, api.Node{})
	got, _ := parse.Program(s)
	again, _ := parse.Program(s)
	spoil(got, api.Node{Op: 99, S: "spoilt", V: val.S("spoilt")})
	fresh, _ := parse.Program(s)
	if !equal(again, fresh) {
		t.Error("one answer shows in another one")
	}
	// The lists of one answer: each is spoilt alone, all others stay.
	for i := range lists(&again) {
		one, _ := parse.Program(s)
		other := lists(&one)
		l := *other[i]
		*other[i] = nil
		rest, _ := parse.Program(s)
		*lists(&rest)[i] = nil
		for j := range l[:cap(l)] {
			l[:cap(l)][j] = api.Node{Op: 99}
		}
		if !equal(one, rest) {
			t.Errorf("list %d shows in another one", i)
		}
	}
}

// spoil writes n into all lists of l, their spare room too, from the innermost ones on.
func spoil(l nodes, n api.Node) {
	for _, x := range l {
		spoil(x.L, n)
	}
	for i := range l[:cap(l)] {
		l[:cap(l)][i] = n
	}
}

// lists is where all lists of l are, its own ahead.
func lists(l *nodes) []*nodes {
	out := []*nodes{l}
	for i := range *l {
		out = append(out, lists(&(*l)[i].L)...)
	}
	return out
}
