package str_test

import (
	"bytes"
	"math"
	"runtime"
	"slices"
	"strings"
	"testing"

	"inglenook/api"
	"inglenook/str"
)

// texts is each text of at most n of these bytes.
func texts(bytes string, n int) []string {
	all := []string{""}
	for from, more := 0, n; more > 0; more-- {
		to := len(all)
		for ; from < to; from++ {
			for i := range len(bytes) {
				all = append(all, all[from]+bytes[i:i+1])
			}
		}
	}
	return all
}

// allBytes is a text of each byte there is.
func allBytes() string {
	b := make([]byte, 256)
	for i := range b {
		b[i] = byte(i)
	}
	return string(b)
}

func as(n int) string { return strings.Repeat("a", n) }

// P3.1: Index and Last at ordinary texts and at the edges.
func TestPlaces(t *testing.T) {
	for _, x := range []struct {
		s, t        string
		index, last int
	}{
		{"abc", "c", 3, 3}, {"abc", "a", 1, 1}, {"abc", "abc", 1, 1}, {"abcabc", "abc", 1, 4}, {"abcabc", "ca", 3, 3},
		{"aaaa", "aa", 1, 3}, {"ababa", "aba", 1, 3}, {"a b a", " ", 2, 4},
		{"", "", 1, 1}, {"a", "", 1, 2}, {"abc", "", 1, 4},
		{"", "a", 0, 0}, {"abc", "d", 0, 0}, {"abc", "abcd", 0, 0}, {"abc", "ac", 0, 0}, {"abc", "B", 0, 0}, {"abc", " ", 0, 0},
		{"\xffa\x00\xffa", "\xffa", 1, 4}, {"\u00e9\u00e9", "\xa9", 2, 4}, {"\u00e9", "\xc3", 1, 1}, {"\u00e9x", "x", 3, 3}, {"\xfe", "\ufffd", 0, 0},
		{strings.Repeat("ab", 50000) + "c", "bc", 100000, 100000}, {as(100000), as(50000), 1, 50001}, {as(100000), as(50000) + "b", 0, 0},
	} {
		if index, last := str.Index(x.s, x.t), str.Last(x.s, x.t); index != x.index || last != x.last {
			t.Errorf("%.20q in %.20q: %d, not %d; %d, not %d", x.t, x.s, index, x.index, last, x.last)
		}
	}
}

// P3.1: of all short texts, Index and Last are the first and the last of the places where the other one stands.
func TestPlacesInShortTexts(t *testing.T) {
	small := texts("ab", 4)
	for _, s := range texts("ab", 7) {
		for _, part := range small {
			first, last := 0, 0
			for at := 1; at <= len(s)+1; at++ {
				if strings.HasPrefix(s[at-1:], part) {
					last = at
					if first == 0 {
						first = at
					}
				}
			}
			if str.Index(s, part) != first || str.Last(s, part) != last {
				t.Errorf("%q in %q: %d, not %d; %d, not %d", part, s, str.Index(s, part), first, str.Last(s, part), last)
			}
		}
	}
}

// P3.1: Upper and Lower turn letters of ASCII, and no other byte.
func TestLetters(t *testing.T) {
	for _, x := range []struct{ s, upper, lower string }{
		{"", "", ""}, {"aZ9z_[", "AZ9Z_[", "az9z_["}, {"`az{", "`AZ{", "`az{"}, {"@AZ[", "@AZ[", "@az["},
		{"Hello, World!", "HELLO, WORLD!", "hello, world!"},
		{"\u00e9\u00c9", "\u00e9\u00c9", "\u00e9\u00c9"}, {"\u0131\u0130", "\u0131\u0130", "\u0131\u0130"}, {"\u017fk\u212a", "\u017fK\u212a", "\u017fk\u212a"}, {"\u00dfs", "\u00dfS", "\u00dfs"},
		{"\xffa\xc3B\x00", "\xffA\xc3B\x00", "\xffa\xc3b\x00"},
		{as(100000), strings.Repeat("A", 100000), as(100000)},
	} {
		if upper, lower := str.Upper(x.s), str.Lower(x.s); upper != x.upper || lower != x.lower {
			t.Errorf("%.20q: %.20q, not %.20q; %.20q, not %.20q", x.s, upper, x.upper, lower, x.lower)
		}
	}
	all := allBytes()
	upper, lower := []byte(all), []byte(all)
	copy(upper['a':], all['A':'Z'+1])
	copy(lower['A':], all['a':'z'+1])
	if str.Upper(all) != string(upper) || str.Lower(all) != string(lower) {
		t.Errorf("%q; %q", str.Upper(all), str.Lower(all))
	}
}

// P3.1: Trim takes spaces away, all of them, ahead and behind; nothing else, and nothing within.
func TestTrim(t *testing.T) {
	for s, want := range map[string]string{
		"": "", " ": "", "     ": "", "a": "a", " a": "a", "a ": "a", "   a   ": "a", "  a  b  ": "a  b", "a b": "a b",
		"\ta\n": "\ta\n", " \t a": "\t a", "\u00a0a\u00a0": "\u00a0a\u00a0", "\u2003a": "\u2003a", " \xff ": "\xff", "\x00 ": "\x00", "_ a _": "_ a _",
	} {
		if got := str.Trim(s); got != want {
			t.Errorf("%q: %q, not %q", s, got, want)
		}
	}
	for c := range 256 {
		s := string([]byte{byte(c)})
		want := s + "a" + s
		if c == ' ' {
			want = "a"
		}
		if got := str.Trim(" " + s + "a" + s + " "); got != want {
			t.Errorf("%q: %q", s, got)
		}
	}
}

// P3.1: Words are what spaces part, and nothing else does.
func TestWords(t *testing.T) {
	for _, x := range []struct {
		s    string
		want []string
	}{
		{"", nil}, {" ", nil}, {"    ", nil}, {"a", []string{"a"}}, {"ab", []string{"ab"}}, {"a b", []string{"a", "b"}},
		{"  a  bc ", []string{"a", "bc"}}, {"a    b", []string{"a", "b"}}, {" a", []string{"a"}}, {"a ", []string{"a"}}, {"a a a", []string{"a", "a", "a"}},
		{"a\tb\nc", []string{"a\tb\nc"}}, {"a\u00a0b\u2003c", []string{"a\u00a0b\u2003c"}}, {"a,b, c", []string{"a,b,", "c"}},
		{"\xff \xc3 \xa0", []string{"\xff", "\xc3", "\xa0"}}, {"\xc0\xa0 \xe2\x80", []string{"\xc0\xa0", "\xe2\x80"}}, {"\x00 \x00", []string{"\x00", "\x00"}},
	} {
		if got := str.Words(x.s); !slices.Equal(got, x.want) {
			t.Errorf("%q: %q, not %q", x.s, got, x.want)
		}
	}
	for c := range 256 {
		s := "a" + string([]byte{byte(c)}) + "b"
		want := []string{s}
		if c == ' ' {
			want = []string{"a", "b"}
		}
		if got := str.Words(s); !slices.Equal(got, want) {
			t.Errorf("%q: %q", s, got)
		}
	}
	if n := len(str.Words(strings.Repeat(" a", 100000))); n != 100000 {
		t.Error(n)
	}
}

// P3.1: of all short texts, Words are what stands between spaces and isn't empty.
func TestWordsOfShortTexts(t *testing.T) {
	for _, s := range texts(" ab", 7) {
		want := slices.DeleteFunc(strings.Split(s, " "), func(w string) bool { return w == "" })
		if got := str.Words(s); !slices.Equal(got, want) {
			t.Errorf("%q: %q, not %q", s, got, want)
		}
	}
}

// P0.4: what is written into the words that were handed out, or behind them, shows in no others.
func TestWordsAreNewMemory(t *testing.T) {
	first, second := str.Words("a b c"), str.Words("a b c")
	for i := len(first); i < cap(first); i++ {
		first = append(first, "behind")
	}
	first[0] = "x"
	if want := []string{"a", "b", "c"}; !slices.Equal(second, want) || !slices.Equal(str.Words("a b c"), want) {
		t.Errorf("%q, %q", second, str.Words("a b c"))
	}
}

// P3.2: Cut at all places in and around short texts.
func TestCut(t *testing.T) {
	for _, s := range []string{"", "a", "abc", "a\u00e9\xff\x00"} {
		many := int64(len(s))
		for from := int64(-2); from <= many+3; from++ {
			for to := int64(-2); to <= many+3; to++ {
				want, code := "", api.ENone
				if from <= to {
					if from >= 1 && to <= many {
						want = s[from-1 : to]
					} else {
						code = api.ERange
					}
				}
				if got, is := str.Cut(s, from, to); got != want || is != code {
					t.Errorf("%q %d..%d: %q, %d", s, from, to, got, is)
				}
			}
		}
	}
}

// P3.2: Cut at the example, and at places far out.
func TestCutFarOut(t *testing.T) {
	for _, x := range []struct {
		from, to int64
		want     string
		code     int
	}{
		{2, 3, "bc", api.ENone}, {1, 1, "a", api.ENone}, {1, 3, "abc", api.ENone},
		{math.MinInt64, math.MaxInt64, "", api.ERange}, {math.MaxInt64, math.MinInt64, "", api.ENone},
		{math.MinInt64, math.MinInt64, "", api.ERange}, {math.MaxInt64, math.MaxInt64, "", api.ERange},
		{math.MinInt64, 2, "", api.ERange}, {2, math.MaxInt64, "", api.ERange}, {2, math.MinInt64, "", api.ENone}, {math.MaxInt64, 2, "", api.ENone},
		{1, 1 << 32, "", api.ERange}, {1, 1<<32 + 2, "", api.ERange}, {1<<32 + 1, 1<<32 + 2, "", api.ERange}, {1 - 1<<32, 2, "", api.ERange},
	} {
		if got, code := str.Cut("abc", x.from, x.to); got != x.want || code != x.code {
			t.Errorf("%d..%d: %q, %d", x.from, x.to, got, code)
		}
	}
	if got, code := str.Cut(as(100000), 2, 99999); got != as(99998) || code != api.ENone {
		t.Error(len(got), code)
	}
}

type change struct {
	s, what, with, want string
	code                int
}

type changes []change

func (all changes) ask(t *testing.T) {
	t.Helper()
	for _, x := range all {
		if got, code := str.Replace(x.s, x.what, x.with); got != x.want || code != x.code {
			t.Errorf("%.20q for %.20q in %.20q: %.20q (%d bytes), %d", x.with, x.what, x.s, got, len(got), code)
		}
	}
}

// P3.2: Replace goes from the left, behind what it replaced; an empty what is met ahead of all else.
func TestReplace(t *testing.T) {
	changes{
		{"abcabc", "bc", "x", "axax", 0}, {"abc", "abc", "", "", 0}, {"abc", "x", "y", "abc", 0}, {"", "a", "b", "", 0}, {"a", "ab", "x", "a", 0}, {"abc", "B", "x", "abc", 0},
		{"aaa", "aa", "b", "ba", 0}, {"aaaa", "aa", "b", "bb", 0}, {"ababa", "aba", "x", "xba", 0}, {"aabb", "ab", "", "ab", 0},
		{"aXa", "a", "aa", "aaXaa", 0}, {"ab", "a", "ba", "bab", 0}, {"ab", "ab", "abab", "abab", 0}, {"aab", "ab", "b", "ab", 0},
		{"a  b", " ", "", "ab", 0}, {"\u00e9", "\xa9", "\xa8", "\u00e8", 0}, {"\xff\xfe", "\xff", "\x00", "\x00\xfe", 0},
		{"", "", "", "", api.EInvArg}, {"abc", "", "x", "", api.EInvArg}, {"", "", "x", "", api.EInvArg}, {as(5000), "", "", "", api.EInvArg}, {as(5000), "", as(5000), "", api.EInvArg},
	}.ask(t)
}

// P3.2: of all short texts, Replace puts the other one in at each place that isn't replaced yet.
func TestReplaceInShortTexts(t *testing.T) {
	for _, s := range texts("ab", 6) {
		for _, what := range texts("ab", 3)[1:] {
			for _, with := range []string{"", "a", "ab", "aab", "x"} {
				want := ""
				for at := 0; at < len(s); {
					if strings.HasPrefix(s[at:], what) {
						want += with
						at += len(what)
					} else {
						want += s[at : at+1]
						at++
					}
				}
				if got, code := str.Replace(s, what, with); got != want || code != api.ENone {
					t.Errorf("%q for %q in %q: %q, %d, not %q", with, what, s, got, code, want)
				}
			}
		}
	}
}

// P3.2: Replace may make 4095 bytes and no more, whether it is what stays or what is put in that is too much.
func TestReplaceTooMuch(t *testing.T) {
	changes{
		{as(4095), "b", "", as(4095), 0}, {as(4096), "b", "", "", api.EQuota}, {as(4095), "a", "b", strings.Repeat("b", 4095), 0}, {as(4096), "a", "b", "", api.EQuota},
		{as(4096) + "b", "b", "", "", api.EQuota}, {as(4095) + "b", "b", "", as(4095), 0}, {"b" + as(4095), "b", "", as(4095), 0}, {"b" + as(4095), "b", "c", "", api.EQuota}, {as(4095) + "b", "b", "c", "", api.EQuota}, {as(4096), "aa", "a", as(2048), 0},
		{"b", "b", as(4095), as(4095), 0}, {"b", "b", as(4096), "", api.EQuota}, {"b", "c", as(4096), "b", 0}, {"ab", "b", as(4094), as(4095), 0}, {"ab", "b", as(4095), "", api.EQuota}, {"ba", "b", as(4094), as(4095), 0}, {"ba", "b", as(4095), "", api.EQuota},
		{as(819), "a", "12345", strings.Repeat("12345", 819), 0}, {as(820), "a", "12345", "", api.EQuota}, {as(2047) + "b", "a", "aa", as(4094) + "b", 0}, {as(2047) + "bb", "a", "aa", "", api.EQuota},
		{as(100000), "a", "", "", 0}, {as(100000), "aaa", "", "a", 0}, {as(100000), as(100000), "b", "b", 0}, {as(99999), as(100000), "b", "", api.EQuota},
	}.ask(t)
}

// P3.2: Join at ordinary texts, and at none, one, and empty ones.
func TestJoin(t *testing.T) {
	for _, x := range []struct {
		sep  string
		l    []string
		want string
	}{
		{", ", []string{"a", "b", "c"}, "a, b, c"}, {"", []string{"a", "b"}, "ab"}, {"x", nil, ""}, {"x", []string{}, ""}, {"x", []string{"a"}, "a"}, {"x", []string{""}, ""},
		{"x", []string{"", ""}, "x"}, {", ", []string{"a", "", "b"}, "a, , b"}, {"-", []string{"", "a", ""}, "-a-"}, {"", []string{"", "", ""}, ""}, {"\xff", []string{"\xc3", "\x00"}, "\xc3\xff\x00"},
	} {
		if got, code := str.Join(x.sep, x.l...); got != x.want || code != api.ENone {
			t.Errorf("%q of %q: %q, %d", x.sep, x.l, got, code)
		}
	}
}

// P3.2: Join may make 4095 bytes and no more, whether it is a text or what stands between that is too much.
func TestJoinTooMuch(t *testing.T) {
	for i, x := range []struct {
		sep  string
		l    []string
		many int
		code int
	}{
		{"", []string{as(4095)}, 4095, 0}, {"", []string{as(4096)}, 0, api.EQuota}, {"", []string{as(4095), ""}, 4095, 0}, {"", []string{as(4095), "", "a"}, 0, api.EQuota}, {"", []string{"", as(4096)}, 0, api.EQuota},
		{as(4095), []string{"", ""}, 4095, 0}, {as(4096), []string{"", ""}, 0, api.EQuota}, {as(4095), []string{"", "", ""}, 0, api.EQuota}, {as(4094), []string{"a", ""}, 4095, 0}, {as(4095), []string{"a", ""}, 0, api.EQuota}, {as(4095), []string{"", "a"}, 0, api.EQuota},
		{as(5000), nil, 0, 0}, {as(5000), []string{""}, 0, 0}, {as(5000), []string{"aa"}, 2, 0},
		{"a", slices.Repeat([]string{""}, 4096), 4095, 0}, {"a", slices.Repeat([]string{""}, 4097), 0, api.EQuota}, {"", slices.Repeat([]string{"aa"}, 2047), 4094, 0}, {"", slices.Repeat([]string{"aa"}, 2048), 0, api.EQuota}, {"", slices.Repeat([]string{""}, 100000), 0, 0},
	} {
		if got, code := str.Join(x.sep, x.l...); got != as(x.many) || code != x.code {
			t.Errorf("%d: %d bytes, %d", i, len(got), code)
		}
	}
}

// P0.4: Join neither changes what it is handed nor looks behind it.
func TestJoinLeavesItsTexts(t *testing.T) {
	room := []string{"a", "b", "behind"}
	got, code := str.Join("-", room[:2]...)
	if want := []string{"a", "b", "behind"}; got != "a-b" || code != api.ENone || !slices.Equal(room, want) {
		t.Errorf("%q, %d, %q", got, code, room)
	}
	room[0] = "x"
	if got != "a-b" {
		t.Error(got)
	}
}

// P0.1: what would be far too great is not made.
func TestTooMuchTakesLittle(t *testing.T) {
	long := string(bytes.Repeat([]byte("a"), 1<<22))
	all := slices.Repeat([]string{long}, 1<<16)
	var before, after runtime.MemStats
	runtime.ReadMemStats(&before)
	_, first := str.Replace(long, "a", long)
	_, second := str.Join(long, all...)
	runtime.ReadMemStats(&after)
	if took := after.TotalAlloc - before.TotalAlloc; first != api.EQuota || second != api.EQuota || took > 1<<20 {
		t.Errorf("%d, %d, %d bytes", first, second, took)
	}
}
