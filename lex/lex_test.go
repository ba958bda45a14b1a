package lex_test

import (
	"errors"
	"math"
	"math/big"
	"reflect"
	"regexp"
	"slices"
	"strconv"
	"strings"
	"testing"

	"inglenook/api"
	"inglenook/lex"
	"inglenook/lit"
	"inglenook/val"
)

func keys() []string {
	return strings.Fields("if elseif else endif for in endfor while endwhile break continue return fork endfork try except finally endtry any")
}

func signs() []string {
	return strings.Fields("( ) { } [ ] , ; . : ! ? | = + - * / % < > @ ' $ == != <= >= && || => .. `")
}

func codeNames() []string {
	return strings.Fields("E_NONE E_TYPE E_DIV E_PERM E_PROPNF E_VERBNF E_VARNF E_INVIND E_RECMOVE E_MAXREC E_RANGE E_ARGS E_NACC E_INVARG E_QUOTA")
}

func name(line int, s string) lex.Token { return lex.Token{Kind: lex.Name, Line: line, S: s} }

func key(line int, s string) lex.Token { return lex.Token{Kind: lex.Key, Line: line, S: s} }

func sign(line int, s string) lex.Token { return lex.Token{Kind: lex.Sign, Line: line, S: s} }

func literal(line int, v api.Value) lex.Token { return lex.Token{Kind: lex.Lit, Line: line, V: v} }

// is asks for just these words.
func is(t *testing.T, s string, want ...lex.Token) {
	t.Helper()
	l, err := lex.All(s)
	if err != nil || len(l) != len(want) || len(l) > 0 && !reflect.DeepEqual(l, want) {
		t.Errorf("All(%.60q): %v, %v, not %v", s, l, err, want)
	}
}

// fails asks for an error around a line, and nothing beside.
func fails(t *testing.T, s string, line int, want error) {
	t.Helper()
	l, err := lex.All(s)
	at, around := err.(*api.At)
	if len(l) > 0 || !around || at.Pos != line || at.Err != want {
		t.Errorf("All(%.60q): %v, %v, not %v around %d", s, l, err, want, line)
	}
}

// P6.1: words of each kind, between spaces and ends of lines, with their lines.
func TestAll(t *testing.T) {
	is(t, "")
	is(t, "   ")
	is(t, " \n\n ")
	is(t, "a", name(1, "a"))
	is(t, "\n\n a \n", name(3, "a"))
	is(t, `x=="a"`, name(1, "x"), sign(1, "=="), literal(1, val.S("a")))
	is(t, "if (a)\n  b;\n\nendif", key(1, "if"), sign(1, "("), name(1, "a"), sign(1, ")"), name(2, "b"), sign(2, ";"), key(4, "endif"))
	is(t, "#0.x", literal(1, val.O(0)), sign(1, "."), name(1, "x"))
	is(t, "1..2", literal(1, val.I(1)), sign(1, ".."), literal(1, val.I(2)))
	is(t, "1.5", literal(1, val.I(1)), sign(1, "."), literal(1, val.I(5)))
	is(t, "a-1", name(1, "a"), sign(1, "-"), literal(1, val.I(1)))
	is(t, "-1", sign(1, "-"), literal(1, val.I(1)))
	is(t, "-0", sign(1, "-"), literal(1, val.I(0)))
	is(t, "-#1", sign(1, "-"), literal(1, val.O(1)))
	is(t, "{1, #-2, E_PERM}", sign(1, "{"), literal(1, val.I(1)), sign(1, ","), literal(1, val.O(-2)), sign(1, ","), literal(1, val.E(api.EPerm)), sign(1, "}"))
	is(t, "`x ! any => 1'", sign(1, "`"), name(1, "x"), sign(1, "!"), key(1, "any"), sign(1, "=>"), literal(1, val.I(1)), sign(1, "'"))
	is(t, "#1#2", literal(1, val.O(1)), literal(1, val.O(2)))
	is(t, "#1-2", literal(1, val.O(1)), sign(1, "-"), literal(1, val.I(2)))
	is(t, "1#2", literal(1, val.I(1)), literal(1, val.O(2)))
	is(t, "a#2", name(1, "a"), literal(1, val.O(2)))
	is(t, "E_DIV#2", literal(1, val.E(api.EDiv)), literal(1, val.O(2)))
	is(t, "\"\"\n\"\"", literal(1, val.S("")), literal(2, val.S("")))
}

// P6.1: behind a Str, and ahead of one, anything may stand.
func TestBesideStr(t *testing.T) {
	str := literal(1, val.S("b"))
	is(t, `"b"a`, str, name(1, "a"))
	is(t, `"b"_`, str, name(1, "_"))
	is(t, `"b"7`, str, literal(1, val.I(7)))
	is(t, `"b"if`, str, key(1, "if"))
	is(t, `"b"E_DIV`, str, literal(1, val.E(api.EDiv)))
	is(t, `"b""b"`, str, str)
	is(t, `a"b"`, name(1, "a"), str)
	is(t, `if"b"`, key(1, "if"), str)
	is(t, `7"b"`, literal(1, val.I(7)), str)
	is(t, `#7"b"`, literal(1, val.O(7)), str)
	is(t, `E_DIV"b"`, literal(1, val.E(api.EDiv)), str)
}

// P6.1: each key is a Key; what begins or ends with one is a name.
func TestKeys(t *testing.T) {
	for _, s := range keys() {
		is(t, s, key(1, s))
		is(t, "\n"+s+"("+s, key(2, s), sign(2, "("), key(2, s))
		is(t, s+"_", name(1, s+"_"))
		is(t, s+"1", name(1, s+"1"))
		is(t, s+"x", name(1, s+"x"))
		is(t, "x"+s, name(1, "x"+s))
		is(t, "_"+s, name(1, "_"+s))
		is(t, s+"-"+s, key(1, s), sign(1, "-"), key(1, s))
		fails(t, s+"A", 1, api.ErrSyntax)
		fails(t, strings.ToUpper(s), 1, api.ErrSyntax)
		fails(t, strings.ToUpper(s[:1])+s[1:], 1, api.ErrSyntax)
	}
	got := lex.Keys()
	if want := slices.Sorted(slices.Values(keys())); !slices.Equal(got, want) {
		t.Errorf("Keys is %q, not %q", got, want)
	}
}

// P6.1: each sign, alone and beside others: the longest that fits.
func TestSigns(t *testing.T) {
	for _, s := range signs() {
		is(t, s, sign(1, s))
		is(t, "a"+s+"b", name(1, "a"), sign(1, s), name(1, "b"))
		is(t, s+" "+s+"\n"+s, sign(1, s), sign(1, s), sign(2, s))
	}
	for s, want := range map[string]string{
		"===": "== =", "====": "== ==", "=>=": "=> =", "==>": "== >", ">==": ">= =", "<==": "<= =", "<=>": "<= >", "=<": "= <", "><": "> <",
		"!==": "!= =", "!!=": "! !=", "=!=": "= !=", "&&&&": "&& &&", "|||": "|| |", "||||": "|| ||", "...": ".. .", "....": ".. ..", "->": "- >", "{}[]()": "{ } [ ] ( )",
		"= =": "= =", "| |": "| |", ". .": ". .", "::": ": :", "++": "+ +", "--": "- -", "//": "/ /", "**": "* *", "<<": "< <", ">>": "> >", "''": "' '", "``": "` `", "$$": "$ $", "@@": "@ @", "??": "? ?", "%%": "% %",
	} {
		var words []lex.Token
		for _, x := range strings.Fields(want) {
			words = append(words, sign(1, x))
		}
		is(t, s, words...)
	}
	got := lex.Signs()
	if want := slices.Sorted(slices.Values(signs())); !slices.Equal(got, want) {
		t.Errorf("Signs is %q, not %q", got, want)
	}
}

// P6.1: names of 1 to MaxName bytes.
func TestNames(t *testing.T) {
	for _, s := range []string{"a", "z", "_", "_1", "__", "a_b", "a1", "z09", "anyany", "e_div", strings.Repeat("a", api.MaxName), "_" + strings.Repeat("9", api.MaxName-1)} {
		is(t, s, name(1, s))
		is(t, " "+s+"\n"+s+"+"+s, name(1, s), name(2, s), sign(2, "+"), name(2, s))
		fails(t, s+"A", 1, api.ErrSyntax)
		fails(t, "\n"+s+"Z", 2, api.ErrSyntax)
	}
	for _, s := range []string{strings.Repeat("a", api.MaxName+1), "_" + strings.Repeat("_", api.MaxName), strings.Repeat("a", 2*api.MaxName), strings.Repeat("if", api.MaxName), "a" + strings.Repeat("0", api.MaxText-1), "aBc", "_A", "1a", "1_", "7z", "0a"} {
		fails(t, s, 1, api.ErrSyntax)
	}
}

// P6.1: Ints and Objs within their ranges.
func TestNumbers(t *testing.T) {
	for _, n := range []int64{0, 1, 9, 10, 12, 100, 2147483647, 2147483648, 4294967296, math.MaxInt64 - 1, math.MaxInt64} {
		s := strconv.FormatInt(n, 10)
		is(t, s, literal(1, val.I(n)))
		is(t, s+";"+s, literal(1, val.I(n)), sign(1, ";"), literal(1, val.I(n)))
		is(t, "-"+s, sign(1, "-"), literal(1, val.I(n)))
	}
	for _, n := range []int{0, 1, 9, 10, 100, -1, -9, -10, -12, math.MaxInt32 - 1, math.MaxInt32, math.MinInt32, math.MinInt32 + 1} {
		s := "#" + strconv.Itoa(n)
		is(t, s, literal(1, val.O(n)))
		is(t, s+":"+s, literal(1, val.O(n)), sign(1, ":"), literal(1, val.O(n)))
	}
	for _, s := range []string{"9223372036854775808", "9223372036854775810", "9999999999999999999", "10000000000000000000", "18446744073709551615", "18446744073709551616", "18446744073709551617", "1" + strings.Repeat("0", 100), strings.Repeat("9", api.MaxText), "#2147483648", "#-2147483649", "#4294967296", "#-4294967296", "#9223372036854775807", "#18446744073709551616", "#-18446744073709551617", "#" + strings.Repeat("9", 1000), "#-" + strings.Repeat("9", 1000), "-9223372036854775808"} {
		fails(t, s, 1, api.ErrRange)
	}
	for _, s := range []string{"00", "01", "007", "0" + strings.Repeat("9", 30), "#", "#-", "#-0", "#-00", "#-01", "#00", "#01", "#0" + strings.Repeat("9", 30), "#--1", "#+1", "# 1", "#- 1", "#-\n1", "#a", "#_", "#-a", "#A", "##1", `#"a"`, "#E_DIV", "#(1)", "1E5", "0x1", "1_000"} {
		fails(t, s, 1, api.ErrSyntax)
	}
}

// P6.1: ErrSyntax of what stands directly behind a number goes ahead of ErrRange.
func TestSyntaxAheadOfRange(t *testing.T) {
	for _, s := range []string{"9223372036854775808", "99999999999999999999", "#2147483648", "#-2147483649"} {
		for _, c := range []string{"a", "z", "A", "Z", "_", "if", "E_DIV", "9_", "0a"} {
			fails(t, s+c, 1, api.ErrSyntax)
		}
		for _, c := range []string{"", " ", "\n", ".", "#", `"`, "^", "\x80", "\xc3\xa9", "@", "[", "`", "{", "/", ":"} {
			fails(t, s+c, 1, api.ErrRange)
		}
	}
}

// P6.1: no letter, digit or _ stands directly behind a word that ends with such ones.
func TestDirectlyBehind(t *testing.T) {
	for _, c := range []string{"a", "m", "z", "A", "M", "Z", "_", "0", "9"} {
		for _, s := range []string{"E_DIV", "E_NONE", "E_QUOTA"} {
			fails(t, s+c, 1, api.ErrSyntax)
			fails(t, " \n"+s+c, 2, api.ErrSyntax)
		}
		for _, s := range []string{"1", "90", "#1", "#-90"} {
			if c < "0" || c > "9" {
				fails(t, s+c, 1, api.ErrSyntax)
			}
		}
	}
}

// P6.1: Strs, with `\` ahead of a quote and of itself.
func TestStrs(t *testing.T) {
	every := ""
	for c := rune(32); c <= 126; c++ {
		every += string(c)
	}
	for _, s := range []string{"", " ", "  a  ", "a", `"`, `\`, `\"`, `"\`, `\\`, `\\\"`, `n\n`, "if", "#1", "1", every, every + every, strings.Repeat("a", api.MaxSize-1)} {
		text := lit.Text(val.S(s))
		is(t, text, literal(1, val.S(s)))
		is(t, "x\n"+text+";"+text, name(1, "x"), literal(2, val.S(s)), sign(2, ";"), literal(2, val.S(s)))
	}
	for _, s := range []string{`"`, `"a`, `"\"`, `"a\`, `"\\\"`, `"\n"`, `"\x41"`, `"\ "`, `"\'"`, `"\`, "\"a\n\"", "\"\n", "\"\\\n\"", "\"\t\"", "\"\r\"", "\"\x00\"", "\"\x00", "\"\x1f\"", "\"\x7f\"", "\"\x80\"", "\"\xff\"", "\"\xc3\xa9\"", "\"a\\\x00\"", "\"a\\\t\""} {
		fails(t, s, 1, api.ErrSyntax)
		fails(t, "a\n \n"+s, 3, api.ErrSyntax)
	}
}

// P6.1: the names of codes are Errs; other capitals are nothing.
func TestErrs(t *testing.T) {
	for code, s := range codeNames() {
		is(t, s, literal(1, val.E(code)))
		is(t, "{"+s+"}", sign(1, "{"), literal(1, val.E(code)), sign(1, "}"))
		fails(t, s[:len(s)-1], 1, api.ErrSyntax)
		fails(t, s[1:]+"A", 1, api.ErrSyntax)
		fails(t, strings.ToLower(s[:1])+s[1:], 1, api.ErrSyntax)
		fails(t, s[:len(s)-1]+strings.ToLower(s[len(s)-1:]), 1, api.ErrSyntax)
		fails(t, s[2:], 1, api.ErrSyntax)
	}
	for _, s := range []string{"E", "E_", "E_XX", "E_DIVE", "A", "Z", "X_DIV", "E_DI", "E_DI V", "E__DIV", "E_E_DIV"} {
		fails(t, s, 1, api.ErrSyntax)
	}
}

// P6.1: the line of a byte at which no word begins, and the first fault of several.
func TestNoWord(t *testing.T) {
	for c := range 256 {
		b := string([]byte{byte(c)})
		begins := c > 32 && c < 127 && c != '"' && c != '#' && c != '&' && c != '\\' && c != '^' && c != '~' && !(c >= 'A' && c <= 'Z')
		if begins || b == " " || b == "\n" {
			if _, err := lex.All(b); err != nil {
				t.Errorf("All(%q): %v", b, err)
			}
			continue
		}
		fails(t, b, 1, api.ErrSyntax)
		fails(t, "a \n\n b "+b+"\n"+b, 3, api.ErrSyntax)
	}
	fails(t, "a\nA", 2, api.ErrSyntax)
	fails(t, "a & b", 1, api.ErrSyntax)
	fails(t, "a &&& b", 1, api.ErrSyntax)
	fails(t, "a\r\nb", 1, api.ErrSyntax)
	fails(t, "\n\ta", 2, api.ErrSyntax)
	fails(t, "^\n9223372036854775808", 1, api.ErrSyntax)
	fails(t, "\n9223372036854775808\n^", 2, api.ErrRange)
	fails(t, "9223372036854775808 01", 1, api.ErrRange)
	fails(t, "01 9223372036854775808", 1, api.ErrSyntax)
	fails(t, strings.Repeat("\n", api.MaxText-1)+"^", api.MaxText, api.ErrSyntax)
}

// P6.1: ErrMany, ahead of all else, of more than MaxText bytes.
func TestTooLong(t *testing.T) {
	for _, s := range []string{" ", "\n", "a", "^", "1", `"`, "(", "E", "a\n"} {
		for _, n := range []int{api.MaxText + 1, api.MaxText + 2, 2 * api.MaxText} {
			if l, err := lex.All(strings.Repeat(s, n)[:n]); len(l) > 0 || err != api.ErrMany {
				t.Errorf("%d of %q: %d words, %v", n, s, len(l), err)
			}
		}
	}
	is(t, strings.Repeat(" ", api.MaxText))
	is(t, strings.Repeat("\n", api.MaxText-1)+"a", name(api.MaxText, "a"))
	if l, err := lex.All(strings.Repeat("(", api.MaxText)); err != nil || len(l) != api.MaxText {
		t.Errorf("%d words, %v", len(l), err)
	}
	long := strings.Repeat("b", api.MaxText-2)
	is(t, `"`+long+`"`, literal(1, val.S(long)))
}

// rules is the chapter's rules as patterns.
type rules struct{ str, number, code, word, mark, behind *regexp.Regexp }

func newRules() rules {
	return rules{
		str:    regexp.MustCompile(`^"(?:[ !#-\[\]-~]|\\["\\])*"`),
		number: regexp.MustCompile(`^(?:#-[1-9][0-9]*|#?(?:0|[1-9][0-9]*))`),
		code:   regexp.MustCompile(`^(?:` + strings.Join(codeNames(), "|") + `)`),
		word:   regexp.MustCompile(`^[a-z_][a-z0-9_]*`),
		mark:   regexp.MustCompile("^(?:==|!=|<=|>=|&&|\\|\\||=>|\\.\\.|[][(){},;.:!?|=+*/%<>@'$`-])"),
		behind: regexp.MustCompile(`^[A-Za-z0-9_]`),
	}
}

// all is the words of s.
func (r rules) all(s string) ([]lex.Token, error) {
	var out []lex.Token
	for i, rest := range strings.Split(s, "\n") {
		for rest = strings.TrimLeft(rest, " "); rest != ""; rest = strings.TrimLeft(rest, " ") {
			no := &api.At{Pos: i + 1, Err: api.ErrSyntax}
			t := lex.Token{Kind: lex.Lit, Line: i + 1}
			ranged, open := true, true
			var m string
			if m = r.str.FindString(rest); m != "" {
				t.V = val.S(strings.NewReplacer(`\"`, `"`, `\\`, `\`).Replace(m[1 : len(m)-1]))
				open = false
			} else if m = r.number.FindString(rest); m != "" {
				n, _ := new(big.Int).SetString(strings.TrimPrefix(m, "#"), 10)
				t.V, ranged = val.I(n.Int64()), n.IsInt64()
				if m[0] == '#' {
					t.V, ranged = val.O(int(n.Int64())), ranged && n.Int64() == int64(int32(n.Int64()))
				}
			} else if m = r.code.FindString(rest); m != "" {
				t.V = val.E(slices.Index(codeNames(), m))
			} else if m = r.word.FindString(rest); m != "" {
				t.Kind, t.S = lex.Name, m
				if slices.Contains(keys(), m) {
					t.Kind = lex.Key
				} else if len(m) > api.MaxName {
					return nil, no
				}
			} else if m = r.mark.FindString(rest); m != "" {
				t.Kind, t.S, open = lex.Sign, m, false
			} else {
				return nil, no
			}
			rest = rest[len(m):]
			if open && r.behind.MatchString(rest) {
				return nil, no
			}
			if !ranged {
				return nil, &api.At{Pos: i + 1, Err: api.ErrRange}
			}
			out = append(out, t)
		}
	}
	return out, nil
}

// eachOf calls f with each text of n of the pieces.
func eachOf(pieces []string, n int, f func(string)) {
	if n == 0 {
		f("")
		return
	}
	for _, p := range pieces {
		eachOf(pieces, n-1, func(s string) { f(p + s) })
	}
}

// P6.1, P6.2: all texts of a few pieces, held against the rules; what Join makes of their words has the same words.
func TestByRules(t *testing.T) {
	r := newRules()
	check := func(s string) {
		l, err := lex.All(s)
		want, no := r.all(s)
		if len(l) != len(want) || len(l) > 0 && !reflect.DeepEqual(l, want) || !reflect.DeepEqual(err, no) {
			t.Fatalf("All(%q): %v, %v, not %v, %v", s, l, err, want, no)
		}
		again, err := lex.All(lex.Join(l...))
		if err != nil || !reflect.DeepEqual(again, l) {
			t.Fatalf("All of Join of %q: %v, %v", s, again, err)
		}
	}
	wide := []string{"a", "z9", "_", "A", "0", "7", "if", "E_DIV", "E_", "#", "-", `"`, `\`, " ", "\n", "=", "!", "<", ">", "&", "|", ".", ";", "9223372036854775807", "9223372036854775808", "2147483648", "\t", "\x80", "\x00", "^"}
	for n := range 4 {
		eachOf(wide, n, check)
	}
	eachOf([]string{"a", "0", "1", "A", "#", "-", `"`, `\`, " ", "\n", "=", "."}, 4, check)
	eachOf([]string{`"`, `\`, "a", "\n"}, 7, check)
}

// P6.2: Join puts words on their lines, with one space between two.
func TestJoin(t *testing.T) {
	for want, l := range map[string][]lex.Token{
		"":                             nil,
		"a":                            {name(1, "a")},
		"\n\na":                        {name(3, "a")},
		"a b":                          {name(1, "a"), name(1, "b")},
		"a\nb":                         {name(1, "a"), name(2, "b")},
		"a\n\n\nb c":                   {name(1, "a"), name(4, "b"), name(4, "c")},
		"\n\na ;\nif":                  {name(3, "a"), sign(1, ";"), key(4, "if")},
		"\na b c\nd":                   {name(2, "a"), name(1, "b"), name(2, "c"), name(3, "d")},
		"\n\n\na b c d":                {name(4, "a"), name(3, "b"), name(2, "c"), name(1, "d")},
		"x e f":                        {name(0, "x"), name(-1, "e"), name(math.MinInt, "f")},
		"x y\nz":                       {name(-5, "x"), name(1, "y"), name(2, "z")},
		`1 #-2 "a\"\\" E_DIV`:          {literal(1, val.I(1)), literal(1, val.O(-2)), literal(1, val.S(`a"\`)), literal(1, val.E(api.EDiv))},
		"-1 0":                         {literal(1, val.I(-1)), literal(1, val.I(0))},
		`{1, {"a"}} =`:                 {literal(1, val.L(val.I(1), val.L(val.S("a")))), sign(1, "=")},
		"= = == => . .. if any xy ( )": {sign(1, "="), sign(1, "="), sign(1, "=="), sign(1, "=>"), sign(1, "."), sign(1, ".."), key(1, "if"), key(1, "any"), name(1, "xy"), sign(1, "("), sign(1, ")")},
	} {
		if got := lex.Join(l...); got != want {
			t.Errorf("Join(%v) is %q, not %q", l, got, want)
		}
	}
}

// P6.2: what All made comes back from what Join makes of it, on the same lines.
func TestJoinBack(t *testing.T) {
	long := strings.Repeat(`a\"b`, 2000)
	for _, s := range []string{
		"x=(1+2)*3;",
		"\n\n  if (a.b:c(@d)[1..$x]) \n\n return `e ! any => {E_DIV, \"\\\"\\\\\"}'; endif\n\n",
		"a-1;a- -1;#-1-1;!!a;a||b&&c;{x,@y}=z",
		`""` + "\n" + `"" ""`,
		`"` + strings.Repeat("a", api.MaxSize-1) + `"`,
		`"` + strings.Repeat("a", api.MaxSize) + `"`,
		`"` + strings.Repeat("a", api.MaxSize+1) + `" b` + "\n\n" + `"c"`,
		`"` + strings.Repeat("ab", api.MaxSize-1) + `"`,
		`"` + long + `"`,
		`"` + strings.Repeat(`\\`, 3*api.MaxSize) + `x"`,
		strings.Repeat("\n", api.MaxText-2) + "if",
	} {
		l, err := lex.All(s)
		if err != nil || len(l) == 0 {
			t.Errorf("All(%.60q): %v", s, err)
		}
		again, err := lex.All(lex.Join(l...))
		if err != nil || !reflect.DeepEqual(again, l) {
			t.Errorf("All of Join of %.60q: %d words, not %d, %v", s, len(again), len(l), err)
		}
	}
}

// P6.2: a Lit that is not right is written as lit.Text has it: not at all.
func TestJoinNotRight(t *testing.T) {
	deep := val.L()
	for range api.MaxNest {
		deep = api.Value{Kind: api.List, L: []api.Value{deep}}
	}
	great := strings.Repeat("a", 3*api.MaxSize)
	for i, v := range []api.Value{
		{Kind: -1},
		{Kind: 5},
		{Kind: api.Int, S: "x"},
		{Kind: api.Str, S: "x", N: 1},
		val.S("\n"),
		val.S("a\x7f"),
		val.O(math.MaxInt32 + 1),
		val.E(15),
		deep,
		{Kind: api.List, L: make([]api.Value, api.MaxSize)},
		{Kind: api.Str, S: great, N: 1},
		{Kind: api.Str, S: great, L: []api.Value{{}}},
		{Kind: api.Int, S: great},
		val.S("\n" + great),
		val.S(great + "\n"),
		val.L(val.S(great)),
	} {
		if got := lex.Join(name(1, "a"), literal(1, v), name(1, "b")); got != "a  b" {
			t.Errorf("%d: %.60q", i, got)
		}
	}
}

// P0.1: Join ends, whatever the lines are.
func TestJoinFarLines(t *testing.T) {
	for _, line := range []int{math.MaxInt32 + 1, 1 << 40, math.MaxInt} {
		if got := lex.Join(name(1, "a"), name(line, "b")); got != "" {
			t.Errorf("line %d: %d bytes", line, len(got))
		}
	}
}

// P0.4: what is handed out is new memory, and what is handed in stays.
func TestMemory(t *testing.T) {
	for what, f := range map[string]func() []string{"Keys": lex.Keys, "Signs": lex.Signs} {
		want := slices.Clone(f())
		a, b := f(), f()
		for i := range a[:cap(a)] {
			a[:cap(a)][i] = "spoilt"
		}
		if !slices.Equal(b, want) || !slices.Equal(f(), want) {
			t.Errorf("%s: %q", what, b)
		}
	}
	is(t, "if (", key(1, "if"), sign(1, "("))
	a, err1 := lex.All("a 1")
	b, err2 := lex.All("a 1")
	if err1 != nil || err2 != nil {
		t.Fatal(err1, err2)
	}
	for i := range a[:cap(a)] {
		a[:cap(a)][i] = sign(9, "spoilt")
	}
	if want := []lex.Token{name(1, "a"), literal(1, val.I(1))}; !reflect.DeepEqual(b, want) {
		t.Errorf("All: %v", b)
	}
	room := []lex.Token{name(1, "a"), literal(1, val.L(val.S("b"))), name(5, "c")}
	lex.Join(room[:2]...)
	if want := []lex.Token{name(1, "a"), literal(1, val.L(val.S("b"))), name(5, "c")}; !reflect.DeepEqual(room, want) {
		t.Errorf("Join: %v", room)
	}
}

// P0.2: the errors are found through the one around them.
func TestErrorsAsk(t *testing.T) {
	_, err := lex.All("a\n01")
	var at *api.At
	if !errors.Is(err, api.ErrSyntax) || !errors.As(err, &at) || at.Pos != 2 {
		t.Error(err)
	}
}
