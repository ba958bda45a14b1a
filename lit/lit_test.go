package lit_test

import (
	"math"
	"reflect"
	"strconv"
	"strings"
	"testing"

	"inglenook/api"
	"inglenook/lit"
	"inglenook/val"
)

// codeNames are the names of the codes, from 0 on.
func codeNames() []string {
	return strings.Fields("E_NONE E_TYPE E_DIV E_PERM E_PROPNF E_VERBNF E_VARNF E_INVIND E_RECMOVE E_MAXREC E_RANGE E_ARGS E_NACC E_INVARG E_QUOTA")
}

// allBytes are the bytes that a Str may have.
func allBytes() string {
	var b []byte
	for c := byte(32); c <= 126; c++ {
		b = append(b, c)
	}
	return string(b)
}

// inLists is v in so many lists, one in the other.
func inLists(v api.Value, n int) api.Value {
	for range n {
		v = api.Value{Kind: api.List, L: []api.Value{v}}
	}
	return v
}

type shown struct {
	v           api.Value
	text, plain string
}

// rows are values with what Text and Plain say of them.
func rows() []shown {
	out := []shown{
		{val.I(0), "0", "0"},
		{val.I(7), "7", "7"},
		{val.I(-1), "-1", "-1"},
		{val.I(100), "100", "100"},
		{val.I(-2050), "-2050", "-2050"},
		{val.I(math.MaxInt64), "9223372036854775807", "9223372036854775807"},
		{val.I(math.MinInt64), "-9223372036854775808", "-9223372036854775808"},
		{val.O(0), "#0", "#0"},
		{val.O(12), "#12", "#12"},
		{val.O(-1), "#-1", "#-1"},
		{val.O(math.MaxInt32), "#2147483647", "#2147483647"},
		{val.O(math.MinInt32), "#-2147483648", "#-2147483648"},
		{val.S(""), `""`, ""},
		{val.S(" "), `" "`, " "},
		{val.S("ab"), `"ab"`, "ab"},
		{val.S(`"`), `"\""`, `"`},
		{val.S(`\`), `"\\"`, `\`},
		{val.S(`\"`), `"\\\""`, `\"`},
		{val.S(`a"b\c`), `"a\"b\\c"`, `a"b\c`},
		{val.S("{1, 2}"), `"{1, 2}"`, "{1, 2}"},
		{val.S("{list}"), `"{list}"`, "{list}"},
		{val.S("E_PERM"), `"E_PERM"`, "E_PERM"},
		{val.S(allBytes()), `"` + strings.NewReplacer(`"`, `\"`, `\`, `\\`).Replace(allBytes()) + `"`, allBytes()},
		{val.L(), "{}", "{list}"},
		{api.Value{Kind: api.List, L: []api.Value{}}, "{}", "{list}"},
		{val.L(val.I(1)), "{1}", "{list}"},
		{val.L(val.S("list")), `{"list"}`, "{list}"},
		{val.L(val.I(1), val.S(`a"`), val.O(-1)), `{1, "a\"", #-1}`, "{list}"},
		{val.L(val.E(3), val.O(2), val.I(-3), val.S(", ")), `{E_PERM, #2, -3, ", "}`, "{list}"},
		{val.L(val.L(), val.L(val.L())), "{{}, {{}}}", "{list}"},
		{val.L(val.L(val.I(1), val.I(2)), val.L(val.I(3)), val.I(4)), "{{1, 2}, {3}, 4}", "{list}"},
		{inLists(val.L(), api.MaxNest-1), strings.Repeat("{", 40) + strings.Repeat("}", 40), "{list}"},
		{inLists(val.E(1), api.MaxNest-1), strings.Repeat("{", 39) + "E_TYPE" + strings.Repeat("}", 39), "{list}"},
	}
	for code, name := range codeNames() {
		out = append(out, shown{val.E(code), name, name})
	}
	return out
}

// P2.1: Text and Plain of right values. P2.2: Read is back.
func TestTextPlainRead(t *testing.T) {
	for _, x := range rows() {
		if got := lit.Text(x.v); got != x.text {
			t.Errorf("Text is %s, not %s", got, x.text)
		}
		if got := lit.Plain(x.v); got != x.plain {
			t.Errorf("Plain is %s, not %s", got, x.plain)
		}
		if v, err := lit.Read(x.text); err != nil || !val.Same(v, x.v) || val.Valid(v) != nil {
			t.Errorf("Read(%s): %v, %v", x.text, v, err)
		}
	}
}

// P2.1: Text and Plain of values that are not right are empty.
func TestNotRight(t *testing.T) {
	self := api.Value{Kind: api.List, L: make([]api.Value, 1)}
	self.L[0] = self
	for i, v := range []api.Value{
		{Kind: -1},
		{Kind: 5},
		val.S("\n"),
		val.S("a\x7f"),
		val.S("\x80"),
		val.O(math.MaxInt32 + 1),
		val.O(math.MinInt32 - 1),
		val.E(-1),
		val.E(15),
		{Kind: api.Int, N: 1, S: "x"},
		{Kind: api.Str, S: "x", N: 1},
		{Kind: api.Err, L: []api.Value{{}}},
		{Kind: api.List, N: 1},
		val.L(val.I(1), val.S("\t")),
		val.L(val.L(val.E(99))),
		inLists(val.L(), api.MaxNest),
		inLists(val.I(1), api.MaxNest),
		val.S(strings.Repeat("a", api.MaxSize)),
		{Kind: api.List, L: make([]api.Value, api.MaxSize)},
		self,
	} {
		if text, plain := lit.Text(v), lit.Plain(v); text != "" || plain != "" {
			t.Errorf("%d: %.40q, %.40q", i, text, plain)
		}
	}
}

// P0.4: Text and Plain change nothing of what they are handed.
func TestTextChangesNothing(t *testing.T) {
	room := []api.Value{val.I(1), val.L(val.S(`"`)), val.I(3)}
	v := api.Value{Kind: api.List, L: room[:2]}
	lit.Text(v)
	lit.Plain(v)
	if want := []api.Value{val.I(1), val.L(val.S(`"`)), val.I(3)}; !reflect.DeepEqual(room, want) {
		t.Errorf("%v, not %v", room, want)
	}
}

// P2.1: Name and Code of each code, and of nothing else.
func TestNameAndCode(t *testing.T) {
	for want, name := range codeNames() {
		if got := lit.Name(want); got != name {
			t.Errorf("Name(%d) is %s, not %s", want, got, name)
		}
		if code, is := lit.Code(name); code != want || !is {
			t.Errorf("Code(%s): %d, %v", name, code, is)
		}
		for _, other := range []string{name[:len(name)-1], name + "X", name + " ", " " + name, strings.ToLower(name), name[2:], name + name, name + "\x00"} {
			if code, is := lit.Code(other); code != 0 || is {
				t.Errorf("Code(%s): %d, %v", other, code, is)
			}
		}
	}
	for _, code := range []int{-1, 15, 16, 99, math.MinInt, math.MaxInt} {
		if got := lit.Name(code); got != "" {
			t.Errorf("Name(%d): %s", code, got)
		}
	}
	for _, name := range []string{"", "E", "E_", "e_none", "NONE", "0", "E_1"} {
		if code, is := lit.Code(name); code != 0 || is {
			t.Errorf("Code(%s): %d, %v", name, code, is)
		}
	}
}

// P2.2: Number at the edges of 64 bits, and of what is none.
func TestNumber(t *testing.T) {
	for s, want := range map[string]int64{
		"0": 0, "9": 9, "10": 10, "-1": -1, "-10": -10, "-9": -9, "1234567890": 1234567890,
		"2147483648": 1 << 31, "-2147483649": -1<<31 - 1,
		"9223372036854775800": math.MaxInt64 - 7, "9223372036854775799": math.MaxInt64 - 8,
		"9223372036854775807": math.MaxInt64, "-9223372036854775808": math.MinInt64, "-9223372036854775807": -math.MaxInt64,
	} {
		if n, is := lit.Number(s); n != want || !is {
			t.Errorf("%s: %d, %v", s, n, is)
		}
	}
	for _, s := range []string{
		"", "-", "--1", "+1", " 1", "1 ", "1\n", "1\x00", "00", "01", "-0", "-01", "1-", "1.", "1_0", "0x1", "#1", "a", `"1"`, "{1}",
		"9223372036854775808", "-9223372036854775809", "9223372036854775810", "9223372036854775900", "10000000000000000000", "18446744073709551615", "18446744073709551616", "18446744073709551617", "-18446744073709551617", "92233720368547758070",
		strings.Repeat("9", 1000), "\u0661", "\xb1",
	} {
		if n, is := lit.Number(s); n != 0 || is {
			t.Errorf("%q: %d, %v", s, n, is)
		}
	}
}

// words is each text of at most n of these bytes.
func words(bytes string, n int) []string {
	all := []string{""}
	for from, more := 0, n; more > 0; more-- {
		to := len(all)
		for ; from < to; from++ {
			for i := range len(bytes) {
				all = append(all, all[from]+bytes[i:i+1])
			}
		}
	}
	return all
}

// P2.2: of all short texts, Number takes just those that are what a number is written as.
func TestNumberOfShortTexts(t *testing.T) {
	for _, s := range words("-+019 a\x00", 5) {
		want, err := strconv.ParseInt(s, 10, 64)
		is := err == nil && strconv.FormatInt(want, 10) == s
		if !is {
			want = 0
		}
		if n, got := lit.Number(s); n != want || got != is {
			t.Errorf("%q: %d, %v", s, n, got)
		}
	}
}
