package match_test

import (
	"regexp"
	"strings"
	"testing"

	"inglenook/match"
)

// texts is each text of at most n of these bytes.
func texts(bytes string, n int) []string {
	all := []string{""}
	for from, more := 0, n; more > 0; more-- {
		to := len(all)
		for ; from < to; from++ {
			for i := range len(bytes) {
				all = append(all, all[from]+bytes[i:i+1])
			}
		}
	}
	return all
}

func as(n int) string { return strings.Repeat("a", n) }

// P10.1: Valid at ordinary names, at the edges of a name and of all of them, and at what is none.
func TestValid(t *testing.T) {
	for _, s := range []string{
		"a", "z", "_", "look", "l*ook", "*look", "look*", "*", "l*ook g", "* a", "a *", "* *", "a a", "a* *b c*d e",
		"a0", "a9", "_0", "a*0", "a*9b", "_*", "*_", "_*0", "a_b_9",
		as(32), as(32) + "*", "*" + as(32), as(16) + "*" + as(16), as(31) + "*a",
		as(31) + "* " + as(31), as(31) + " " + as(32), as(32) + " " + as(31), strings.Repeat("a ", 31) + "aa", strings.Repeat("* ", 31) + "*a",
	} {
		if !match.Valid(s) {
			t.Errorf("%q is not valid", s)
		}
	}
	for _, s := range []string{
		"", " ", "  ", " a", "a ", "a  b", "a b ", " *", "* ", "*  *", "a\tb", "a\n", "a\x00",
		"**", "***", "*a*", "a**", "**a", "a*b*", "a*b*c", "a **", "** a",
		"0", "9", "0a", "*0", "*9a", "0*", "1*a", "a 0", "0 a", "a *1",
		"A", "Z", "aB", "a-b", "a.b", "`", "{", "/", ":", "a@", "[", "a\x7f", "\u00e9", "a\u00e9", "\xff", "\u0661", "a\u0661",
		as(33), as(33) + "*", "*" + as(33), as(16) + "*" + as(17), "a " + as(33), as(33) + " a",
		as(32) + " " + as(32), as(31) + "* " + as(32), strings.Repeat("a ", 32) + "a", strings.Repeat("* ", 32) + "*", strings.Repeat("a ", 31) + "aa*", as(1 << 20), strings.Repeat("a ", 1<<20) + "a",
	} {
		if match.Valid(s) {
			t.Errorf("%.80q is valid", s)
		}
	}
}

// P10.1: of all short texts Valid lets those pass that the chapter's words tell, written as an expression.
func TestValidOfShortTexts(t *testing.T) {
	const star = `([a-z_][a-z0-9_]*\*?[a-z0-9_]*|\*([a-z_][a-z0-9_]*)?)`
	valid := regexp.MustCompile(`^` + star + `( ` + star + `)*$`)
	for _, s := range texts("a_0* A-", 6) {
		if want := valid.MatchString(s); match.Valid(s) != want {
			t.Fatalf("%q: %v, not %v", s, !want, want)
		}
	}
	for c := range 256 {
		for _, s := range []string{string([]byte{byte(c)}), string([]byte{'a', byte(c)}), string([]byte{'a', byte(c), 'a'})} {
			if want := valid.MatchString(s); match.Valid(s) != want {
				t.Fatalf("%q: %v, not %v", s, !want, want)
			}
		}
	}
}

// P10.1: Verb at a name of each form: a star nowhere, alone, last, within and first.
func TestVerb(t *testing.T) {
	for _, x := range []struct{ names, fits, not string }{
		{"look", "look", "l,loo,looks,Look,LOOK,,*,look*, look,look "},
		{"*", ",a,A,0,*,any thing, ,\xff\x00", ""},
		{"look*", "look,looks,look at,look*,look\xff,lookout_9", "l,loo,Look,LOOK,,*, look,xlook"},
		{"l*ook", "l,lo,loo,look", ",looks,lok,L,l*,l*ook,ook,o,x,lx,lookl,l "},
		{"loo*k", "loo,look", ",l,lo,looks,lookk,k,looks k"},
		{"*look", ",l,lo,loo,look", "looks,ook,k,*,*l,L,x, "},
		{"l*ook g", "l,loo,look,g", ",gg,looks,l*ook g,look g,lg, ,og"},
		{"g l*ook", "l,loo,look,g", ",gg,looks,g l,g l*ook, "},
		{"get take", "get,take", ",g,tak,get take,gettake,gettakes"},
		{"a*b b*c c", "a,ab,b,bc,c", ",abc,abb,bb,cc,ac"},
		{"a *", ",a,b,a *", ""},
		{"* a", ",a,b", ""},
		{"a0*_9", "a0,a0_,a0_9", "a,a0_99,a09"},
		{"_", "_", ",__,*"},
		{as(32) + "*", as(32) + "," + as(33) + "," + as(1<<20), as(31)},
		{"a*" + as(31), "a," + as(2) + "," + as(31) + "," + as(32), "," + as(33) + "," + as(1<<20)},
	} {
		for _, w := range strings.Split(x.fits, ",") {
			if !match.Verb(x.names, w) {
				t.Errorf("%q doesn't fit %.80q", x.names, w)
			}
		}
		if x.not == "" {
			continue
		}
		for _, w := range strings.Split(x.not, ",") {
			if match.Verb(x.names, w) {
				t.Errorf("%q fits %.80q", x.names, w)
			}
		}
	}
}

// P10.1: what Valid does not let pass fits nothing, not even the word that it is, nor by one of its names that is right.
func TestVerbOfWrongNames(t *testing.T) {
	for _, names := range []string{
		"", " ", " look", "look ", "look  g", "A", "look A", "A look", "1", "look 1", "**", "look **", "look*s*", "* look*s*", "look-s",
		as(33), "look " + as(33), "look " + as(32) + " " + as(27), "\xff look", "look\n",
	} {
		for _, word := range []string{"", names, "look", "looks", "A", "1", as(32), as(33), "**", " "} {
			if match.Verb(names, word) {
				t.Errorf("%q fits %q", names, word)
			}
		}
	}
}

// pattern is what a pattern fits, as an expression.
func pattern(p string) string {
	at := strings.Index(p, "*")
	if at < 0 {
		return p
	}
	if at == len(p)-1 {
		return p[:at] + `[\x00-\x7f]*`
	}
	word, more := p[:at], p[at+1:]
	end := ""
	for i := range len(more) {
		word += "(" + more[i:i+1]
		end += ")?"
	}
	return word + end
}

// P10.1: of all short names and words Verb tells what the chapter's words say of the single patterns.
func TestVerbOfShortNames(t *testing.T) {
	words := texts("ab* ", 4)
	for _, names := range texts("ab* ", 5) {
		if !match.Valid(names) {
			continue
		}
		var any []string
		for _, p := range strings.Split(names, " ") {
			any = append(any, pattern(p))
		}
		fits := regexp.MustCompile(`^(` + strings.Join(any, "|") + `)$`)
		for _, w := range words {
			if want := fits.MatchString(w); match.Verb(names, w) != want {
				t.Fatalf("%q of %q: %v, not %v", w, names, !want, want)
			}
		}
	}
}
