package lit_test

import (
	"reflect"
	"runtime"
	"strings"
	"testing"

	"inglenook/api"
	"inglenook/lit"
	"inglenook/val"
)

// fault is the place of Read's ErrSyntax; -1, if it reads s; -2, if it answers something else.
func fault(s string) int {
	v, err := lit.Read(s)
	if err == nil {
		return -1
	}
	at, is := err.(*api.At)
	if !is || at.Err != api.ErrSyntax || !reflect.DeepEqual(v, api.Value{}) {
		return -2
	}
	return at.Pos
}

type faults []struct {
	s   string
	pos int
}

func (all faults) ask(t *testing.T) {
	t.Helper()
	for _, x := range all {
		if pos := fault(x.s); pos != x.pos {
			t.Errorf("%.60q: %d, not %d", x.s, pos, x.pos)
		}
	}
}

// P2.2: the place of the first byte that doesn't fit, in what is no list.
func TestReadFaults(t *testing.T) {
	faults{
		{"", 0}, {" ", 0}, {" 1", 0}, {"x", 0}, {"+1", 0}, {"}", 0}, {",", 0}, {"_", 0}, {"\x00", 0}, {"\n", 0}, {"\xff", 0}, {"'a'", 0}, {"\\", 0}, {"/", 0}, {":", 0},
		{"-", 1}, {"-0", 1}, {"--1", 1}, {"-x", 1}, {"- 1", 1}, {"-#1", 1},
		{"00", 1}, {"01", 1}, {"0-", 1}, {"1 ", 1}, {"1-", 1}, {"12a", 2}, {"-1-", 2}, {"1\x00", 1}, {"1\n", 1}, {"1}", 1}, {"1, 2", 1}, {"1.5", 1}, {"1/", 1}, {"1:", 1},
		{"9223372036854775808", 18}, {"9223372036854775810", 18}, {"9223372036854775900", 18}, {"9999999999999999999", 18}, {"92233720368547758070", 19}, {"10000000000000000000", 19}, {"18446744073709551617", 19},
		{"-9223372036854775809", 19}, {"-9223372036854775810", 19}, {"-92233720368547758080", 20}, {"-18446744073709551615", 20}, {strings.Repeat("1", 1000), 19},
		{"#", 1}, {"#x", 1}, {"# 1", 1}, {"##1", 1}, {"#+1", 1}, {"#-", 2}, {"#-0", 2}, {"#--1", 2}, {"#00", 2}, {"#01", 2}, {"#1 ", 2}, {"#1#", 2}, {"#\x00", 1},
		{"#2147483648", 10}, {"#2147483650", 10}, {"#3000000000", 10}, {"#21474836470", 11}, {"#10000000000", 11}, {"#-2147483649", 11}, {"#-2147483650", 11}, {"#-21474836480", 12}, {"#9223372036854775807", 10},
		{`"`, 1}, {`"a`, 2}, {`"\`, 2}, {`"\"`, 3}, {`"\\`, 3}, {`"a\x"`, 3}, {`"\n"`, 2}, {`"\ "`, 2}, {"\"\\\x00\"", 2}, {"\"\n\"", 1}, {"\"a\x7f\"", 2}, {"\"\x1f", 1}, {"\"\x00\"", 1}, {"\"\x80\"", 1}, {"\"ab\xff", 3}, {`""a`, 2}, {`"a""b"`, 3}, {`"a" `, 3}, {`"" `, 2},
		{"E", 1}, {"E_", 2}, {"EX", 1}, {"e_none", 0}, {"E_none", 2}, {"E_PX", 3}, {"E_P", 3}, {"E_PERMX", 6}, {"E_PERM_", 6}, {"E_PERM ", 6}, {"E_PER", 5}, {"E_PERN", 5}, {"E_PROP", 6}, {"E_PROPNX", 7}, {"E_V", 3}, {"E_VERB", 6}, {"E_VERBNG", 7}, {"E_VARX", 5}, {"E_INVX", 5}, {"E_INVAX", 6}, {"E_INVI", 6}, {"E_REX", 4}, {"E_RAX", 4}, {"E_MAXREC1", 8}, {"E_NAX", 4}, {"E_NOX", 4}, {"E_DIV0", 5}, {"E_0", 2},
	}.ask(t)
}

// P2.2: the place of the first byte that doesn't fit, in and behind lists.
func TestReadFaultsOfLists(t *testing.T) {
	faults{
		{"{", 1}, {"{{", 2}, {"{ }", 1}, {"{ 1}", 1}, {"{,", 1}, {"{, 1}", 1}, {"{x", 1}, {"{]", 1}, {"{\x00", 1},
		{"{}}", 2}, {"{}{}", 2}, {"{} ", 2}, {"{}, {}", 2}, {"{}\x00", 2}, {"{1}1", 3},
		{"{1", 2}, {"{1 }", 2}, {"{1;", 2}, {"{1{", 2}, {"{1\x00", 2}, {"{1,", 3}, {"{1,2}", 3}, {"{1,}", 3}, {"{1, ", 4}, {"{1, }", 4}, {"{1,  2}", 4}, {"{1, ,", 4}, {"{1, 2", 5}, {"{1, 2,}", 6},
		{"{{}", 3}, {"{{}{", 3}, {"{{} }", 3}, {"{{},", 4}, {"{{}, }", 5}, {"{{1}, {2, }}", 10}, {"{{}, {}}}", 8}, {"{1}}", 3},
		{"{01}", 2}, {"{-}", 2}, {"{-0}", 2}, {"{1-}", 2}, {"{#}", 2}, {"{#1, #-0}", 7}, {"{#-}", 3}, {"{9223372036854775808}", 19}, {"{#2147483648}", 11},
		{`{"`, 2}, {`{"}`, 3}, {`{"a}`, 4}, {`{"\}`, 3}, {`{"a",`, 5}, {`{"a""b"}`, 4}, {"{\"a\n\"}", 3},
		{"{E_PERMX}", 7}, {"{E_PERM", 7}, {"{E_}", 3}, {"{E_PERM, E_X}", 11}, {"{e", 1},
	}.ask(t)
}

// P2.2: a text that is cut off is no text yet, or one that is shorter; a byte that stands in no text is found wherever it stands.
func TestReadEachPlace(t *testing.T) {
	for _, x := range rows() {
		for i := range len(x.text) + 1 {
			if pos := fault(x.text[:i]); pos != i && (pos != -1 || lit.Text(read(x.text[:i])) != x.text[:i]) {
				t.Errorf("%.60s cut at %d: %d", x.text, i, pos)
			}
			for _, odd := range []string{"\n", "\x00", "\x1f", "\x7f", "\x80", "\xff"} {
				if pos := fault(x.text[:i] + odd + x.text[i:]); pos != i {
					t.Errorf("%.60s with %q at %d: %d", x.text, odd, i, pos)
				}
			}
		}
	}
}

func read(s string) api.Value {
	v, _ := lit.Read(s)
	return v
}

// goesOn tells whether a text begins with s, by trying what may be missing.
func goesOn(s string) bool {
	for _, end := range []string{"", "0", "1", `"`, `""`, `\"`, " 0"} {
		for n := range 6 {
			if fault(s+end+strings.Repeat("}", n)) == -1 {
				return true
			}
		}
	}
	return false
}

// P2.2: of all short texts, what is read is the text of what was read; of another one all ahead of its fault goes on to be a text, and no byte more.
func TestReadOfShortTexts(t *testing.T) {
	for _, s := range words(`{}, 01-#"\`, 5) {
		pos := fault(s)
		switch {
		case pos == -1:
			if text := lit.Text(read(s)); text != s {
				t.Errorf("%s was read as %s", s, text)
			}
		case pos < 0 || pos > len(s):
			t.Errorf("%s: %d", s, pos)
		case !goesOn(s[:pos]):
			t.Errorf("%s: at %d it is too late", s, pos)
		case pos < len(s) && goesOn(s[:pos+1]):
			t.Errorf("%s: at %d it goes on", s, pos)
		}
	}
}

// pile is so many lists, one in the other, around s.
func pile(s string, n int) string { return strings.Repeat("{", n) + s + strings.Repeat("}", n) }

// many is a list of n times s.
func many(s string, n int) string {
	return "{" + strings.TrimSuffix(strings.Repeat(s+", ", n), ", ") + "}"
}

// P2.2: val.Valid's errors of what is too deep, or too great, whichever it meets first; ErrSyntax is met ahead of them.
func TestReadTooMuch(t *testing.T) {
	long := `"` + strings.Repeat(`\"`, 4096) + `"`
	for i, x := range []struct {
		s    string
		want error
	}{
		{pile("", 40), nil},
		{pile("", 41), api.ErrDeep},
		{pile("", 42), api.ErrDeep},
		{pile("1", 39), nil},
		{pile("1", 40), api.ErrDeep},
		{pile(`"a"`, 41), api.ErrDeep},
		{pile("1, {}, "+pile("2", 30)+", E_PERM", 30), api.ErrDeep},
		{many("0", 4095), nil},
		{many("0", 4096), api.ErrMany},
		{many("0", 4097), api.ErrMany},
		{many("{}", 4095), nil},
		{many("{}", 4096), api.ErrMany},
		{many("0", 100000), api.ErrMany},
		{many("{}", 100000), api.ErrMany},
		{many(many("#1", 63), 63), nil},
		{many(many("#1", 63), 64), api.ErrMany},
		{`"` + strings.Repeat("a", 4095) + `"`, nil},
		{`"` + strings.Repeat("a", 4096) + `"`, api.ErrMany},
		{`"` + strings.Repeat(`\"`, 4095) + `"`, nil},
		{long, api.ErrMany},
		{`{"` + strings.Repeat("a", 4094) + `"}`, nil},
		{`{"` + strings.Repeat("a", 4094) + `", 1}`, api.ErrMany},
		{"{" + pile("", 40) + ", " + long + "}", api.ErrDeep},
		{"{" + long + ", " + pile("", 40) + "}", api.ErrMany},
		{"{" + pile("", 40) + ", " + many("0", 5000) + "}", api.ErrDeep},
		{"{" + many("0", 5000) + ", " + pile("", 40) + "}", api.ErrMany},
		{pile(long, 39), api.ErrMany},
		{pile(long, 40), api.ErrDeep},
		{pile(many("0", 5000), 39), api.ErrDeep},
		{pile(many("0", 5000), 38), api.ErrMany},
		{"{" + strings.Repeat("0, ", 4094) + pile("", 40) + "}", api.ErrMany},
		{"{" + strings.Repeat("0, ", 4057) + pile("", 40) + "}", api.ErrMany},
		{"{" + strings.Repeat("0, ", 4056) + pile("", 40) + "}", api.ErrDeep},
		{"{" + strings.Repeat("0, ", 4056) + pile("", 39) + "}", nil},
	} {
		v, err := lit.Read(x.s)
		if err != x.want || err == nil && lit.Text(v) != x.s || err != nil && !reflect.DeepEqual(v, api.Value{}) {
			t.Errorf("%d: %v, not %v", i, err, x.want)
		}
	}
	faults{
		{pile("x", 50), 50},
		{pile("", 50) + "}", 100},
		{"{" + pile("", 50), 101},
		{many("0", 5000) + " ", 15000},
		{"{" + pile("1", 50) + "," + pile("2", 50) + "}", 103},
		{"{" + many("{1, {}}", 5000) + ", 01}", 45004},
		{long + "x", 8194},
	}.ask(t)
}

// P0.1, P2.2: a text that nests far too deep ends like all others.
func TestReadFarTooDeep(t *testing.T) {
	n := 1 << 22
	if pos := fault(strings.Repeat("{", n)); pos != n {
		t.Error(pos)
	}
	if _, err := lit.Read(pile("", n)); err != api.ErrDeep {
		t.Error(err)
	}
}

// P2.2: what is far too great is not made whole: a list takes many times the memory of its text.
func TestReadTakesLittle(t *testing.T) {
	for _, s := range []string{pile("", 1<<20), many("0", 1<<20), many("{}", 1<<20), many("#-1, {{E_DIV}}", 1<<18)} {
		var before, after runtime.MemStats
		runtime.ReadMemStats(&before)
		lit.Read(s)
		runtime.ReadMemStats(&after)
		if took := after.TotalAlloc - before.TotalAlloc; took > uint64(len(s)) {
			t.Errorf("%.30s: %d bytes for %d", s, took, len(s))
		}
	}
}

// P0.4: no two lists that Read hands out share memory, nor do those of two answers.
func TestReadIsNewMemory(t *testing.T) {
	s := `{{1, 2, 3}, {4, 5, 6}, {}, {{7}, {8}}}`
	v, other := read(s), read(s)
	for _, l := range [][]api.Value{v.L, v.L[0].L, v.L[1].L, v.L[3].L, v.L[3].L[0].L} {
		for i := len(l); i < cap(l); i++ {
			l = append(l, val.S("behind"))
		}
	}
	if lit.Text(v) != s {
		t.Errorf("behind a list lies another one: %s", lit.Text(v))
	}
	v.L[0].L[0], v.L[3].L[0].L[0] = val.S("x"), val.S("y")
	if want := `{{"x", 2, 3}, {4, 5, 6}, {}, {{"y"}, {8}}}`; lit.Text(v) != want {
		t.Errorf("%s, not %s", lit.Text(v), want)
	}
	if lit.Text(other) != s || lit.Text(read(s)) != s {
		t.Errorf("another answer is %s", lit.Text(other))
	}
}
