package parse_test

import (
	"errors"
	"math/rand"
	"slices"
	"strings"
	"testing"

	"inglenook/api"
	"inglenook/lex"
	"inglenook/parse"
)

// grammar is chapter 9's language as rules, one a line: a kind of thing, and the ways to write it, parted by / (// is the sign). What begins with a capital is a kind, all else is a word; name, int, lit stand for all such words.
const grammar = `
Statements -> / Statements Statement
Statement -> Whole ; / break ; / continue ; / return ; / return Whole ; / while ( Whole ) Statements endwhile / fork ( Whole ) Statements endfork
Statement -> if ( Whole ) Statements Elseifs endif / if ( Whole ) Statements Elseifs else Statements endif
Statement -> for name in ( Whole ) Statements endfor / for name in [ Whole .. Whole ] Statements endfor
Statement -> try Statements Excepts endtry / try Statements finally Statements endtry
Elseifs -> / Elseifs elseif ( Whole ) Statements
Excepts -> Except / Excepts Except
Except -> except ( Codes ) Statements / except name ( Codes ) Statements
Codes -> any / Wholes
Wholes -> Whole / Wholes , Whole
Whole -> Cond / Target = Whole / Pattern = Whole
Target -> name / Prop / Target [ Whole ] / ( Target )
Pattern -> { Vars } / { Splice } / { Vars , Splice } / ( Pattern )
Vars -> Name / Vars , Name
Splice -> @ Name
Name -> name / ( Name )
Cond -> Or / Or ? Cond | Cond
Or -> And / Or || And
And -> Same / And && Same
Same -> Sum / Same == Sum / Same != Sum / Same < Sum / Same <= Sum / Same > Sum / Same >= Sum / Same in Sum
Sum -> Product / Sum + Product / Sum - Product
Product -> Ahead / Product * Ahead / Product // Ahead / Product % Ahead
Ahead -> Behind / - Ahead / ! Ahead
Behind -> First / Behind [ Whole ] / Behind [ Whole .. Whole ] / Prop / Behind : Key ( Items )
Prop -> Behind . Key / $ name
Key -> name / ( Whole )
First -> int / - int / lit / name / name ( Items ) / { Items } / ( Whole ) / CATCH Whole ! Codes ' / CATCH Whole ! Codes => Whole '
Items -> / Row
Row -> Item / Row , Item
Item -> Whole / @ Whole
`

// rules is the grammar, by the kinds.
func rules() map[string][][]string {
	out := map[string][][]string{}
	for line := range strings.Lines(strings.TrimSpace(grammar)) {
		kind, ways, _ := strings.Cut(strings.TrimSpace(line), " ->")
		way := []string{}
		for _, w := range append(strings.Fields(ways), "/") {
			switch w {
			case "/":
				out[kind] = append(out[kind], way)
				way = []string{}
			case "//":
				way = append(way, "/")
			case "CATCH":
				way = append(way, "`")
			default:
				way = append(way, w)
			}
		}
	}
	return out
}

// item is a way to write a kind, how much of it there is, and the word ahead of which it began.
type item struct {
	kind            string
	way, done, from int
}

// earley goes through words, with all that they may be at once: so it knows the first word with which nothing goes on, whatever was chosen.
type earley struct {
	rules map[string][][]string
	sets  [][]item
	known []map[item]bool
}

func (e *earley) add(at int, i item) {
	if !e.known[at][i] {
		e.known[at][i] = true
		e.sets[at] = append(e.sets[at], i)
	}
}

// waits is what i needs next; nothing, if it is done.
func (e *earley) waits(i item) string {
	way := e.rules[i.kind][i.way]
	if i.done == len(way) {
		return ""
	}
	return way[i.done]
}

func (e *earley) begin(at int, kind string) {
	for way := range e.rules[kind] {
		e.add(at, item{kind, way, 0, at})
	}
}

// close adds all that follows from what is in the set.
func (e *earley) close(at int) {
	for k := 0; k < len(e.sets[at]); k++ {
		i := e.sets[at][k]
		next := e.waits(i)
		if next == "" {
			for _, j := range slices.Clone(e.sets[i.from]) {
				if e.waits(j) == i.kind {
					j.done++
					e.add(at, j)
				}
			}
			continue
		}
		if e.rules[next] != nil {
			e.begin(at, next)
			// What may be nothing may be done already.
			if slices.ContainsFunc(e.rules[next], func(way []string) bool { return len(way) == 0 }) {
				i.done++
				e.add(at, i)
			}
		}
	}
}

// fault is the number of the first word, from 1 on, with which no thing of the kind goes on; that of the last one, or 1, if it ends too early; 0, if words are one.
func (e *earley) fault(kind string, words []string) int {
	e.sets, e.known = make([][]item, len(words)+1), make([]map[item]bool, len(words)+1)
	for i := range e.known {
		e.known[i] = map[item]bool{}
	}
	e.begin(0, kind)
	e.close(0)
	for at, w := range words {
		for _, i := range e.sets[at] {
			if e.waits(i) == class(w) {
				i.done++
				e.add(at+1, i)
			}
		}
		e.close(at + 1)
		if len(e.sets[at+1]) == 0 {
			return at + 1
		}
	}
	for _, i := range e.sets[len(words)] {
		if i.kind == kind && i.from == 0 && e.waits(i) == "" {
			return 0
		}
	}
	return max(len(words), 1)
}

// class is what a word is for the grammar.
func class(w string) string {
	switch {
	case w[0] >= '0' && w[0] <= '9':
		return "int"
	case w[0] == '"', w[0] == '#', w[0] == 'E':
		return "lit"
	case w[0] >= 'a' && w[0] <= 'z' && !slices.Contains(lex.Keys(), w):
		return "name"
	}
	return w
}

// faultOf is the number of the word that an error tells, each being on a line of its own; 0, if they are a program, or one but for tree.
func faultOf(err error) int {
	var at *api.At
	if errors.As(err, &at) && at.Err == api.ErrSyntax {
		return at.Pos
	}
	return 0
}

// same asks parse and the grammar for the fault of words.
func (e *earley) same(t *testing.T, words []string) {
	t.Helper()
	s := strings.Join(words, "\n")
	_, err := parse.Program(s)
	if got, want := faultOf(err), e.fault("Program", words); got != want {
		t.Errorf("Program: %q: word %d, not %d (%v)", words, got, want, err)
	}
	_, err = parse.Expr(s)
	if got, want := faultOf(err), e.fault("Expr", words); got != want {
		t.Errorf("Expr: %q: word %d, not %d (%v)", words, got, want, err)
	}
}

func newEarley() *earley {
	e := &earley{rules: rules()}
	e.rules["Program"] = [][]string{{"Statements"}}
	e.rules["Expr"] = [][]string{{"Whole"}}
	return e
}

func allWords() []string {
	return strings.Fields("a b f 1 27 #3 \"s\" E_DIV if elseif else endif for in endfor while endwhile break continue return fork endfork try except finally endtry any ( ) { } [ ] , ; . : ! ? | = + - * / % < > @ ' $ == != <= >= && || => .. `")
}

// P9.1: words by chance: most of them no program, early or late.
func TestViableChance(t *testing.T) {
	r := rand.New(rand.NewSource(9))
	e := newEarley()
	all := allWords()
	often := strings.Fields("a b 1 ( ) { } [ ] , = - @ ? | ! ; . $ : ` '")
	for range 5000 {
		var words []string
		for range r.Intn(12) {
			from := all
			if r.Intn(3) > 0 {
				from = often
			}
			words = append(words, from[r.Intn(len(from))])
		}
		e.same(t, words)
	}
}

// P9.1: each row of words that begins a program, with each word behind: of all rows up to a length.
func TestViableAll(t *testing.T) {
	e := newEarley()
	var grow func(words []string, left int)
	grow = func(words []string, left int) {
		for _, w := range strings.Fields("a 1 ( ) { } , = - @ ; [ ]") {
			more := append(slices.Clone(words), w)
			e.same(t, more)
			if left > 1 && e.fault("Program", append(more, "endtry")) == len(more)+1 {
				grow(more, left-1)
			}
		}
	}
	grow(nil, 4)
}

// P9.1: programs with a word put in, taken out or changed.
func TestViableChanged(t *testing.T) {
	r := rand.New(rand.NewSource(19))
	e := newEarley()
	all := allWords()
	for range 700 {
		m := writer{Rand: r}
		m.statements(2, false)
		words := m.words
		if len(words) == 0 || len(words) > 60 {
			continue
		}
		e.same(t, words)
		for range 3 {
			at, w := r.Intn(len(words)), all[r.Intn(len(all))]
			switch r.Intn(3) {
			case 0:
				words = slices.Insert(slices.Clone(words), at, w)
			case 1:
				words = slices.Delete(slices.Clone(words), at, at+1)
			default:
				words = slices.Clone(words)
				words[at] = w
			}
			e.same(t, words)
			if len(words) == 0 {
				break
			}
		}
	}
}
