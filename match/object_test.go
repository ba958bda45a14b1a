package match_test

import (
	"math/rand"
	"reflect"
	"slices"
	"strconv"
	"strings"
	"testing"

	"inglenook/match"
)

func thing(id int, names ...string) match.Thing { return match.Thing{ID: id, Names: names} }

func room() []match.Thing {
	return []match.Thing{
		thing(5, "Red Ball", "ball"), thing(7, "Box"), thing(9, "balloon", ""), thing(5, "ball"), thing(11, "box lid", "LID"), thing(-1), thing(0, "me_0", "#12", "#x y"),
	}
}

// P10.2: the numbers that are no object's.
func TestNumbers(t *testing.T) {
	if match.Failed != -3 || match.Ambiguous != -2 || match.Nothing != -1 {
		t.Error(match.Failed, match.Ambiguous, match.Nothing)
	}
}

// P10.2: no word, a name, a beginning of a name, without their case; several, and none.
func TestObject(t *testing.T) {
	for _, x := range []struct {
		word string
		want int
	}{
		{"", match.Nothing},
		{"ball", 5}, {"BALL", 5}, {"bAlL", 5}, {"red ball", 5}, {"RED BALL", 5}, {"balloon", 9}, {"lid", 11}, {"Lid", 11},
		{"box", 7}, {"BOX", 7}, {"box lid", 11}, {"me_0", 0}, {"ME_0", 0},
		{"r", 5}, {"red", 5}, {"Red ", 5}, {"ballo", 9}, {"BALLO", 9}, {"box ", 11}, {"l", 11}, {"me", 0}, {"ME_", 0},
		{"b", match.Ambiguous}, {"bal", match.Ambiguous}, {"BO", match.Ambiguous},
		{"x", match.Failed}, {"balls", match.Failed}, {"redball", match.Failed}, {" ball", match.Failed}, {"ball ", match.Failed},
		{"all", match.Failed}, {"oon", match.Failed}, {" ", match.Failed}, {"*", match.Failed}, {"me-0", match.Failed}, {"me\x7f0", match.Failed},
	} {
		if got := match.Object(x.word, room()...); got != x.want {
			t.Errorf("%q: %d, not %d", x.word, got, x.want)
		}
	}
	for _, word := range []string{"a", "#0", "#-1", "#"} {
		if got := match.Object(word); got != match.Failed {
			t.Errorf("%q of nothing: %d", word, got)
		}
	}
	if match.Object("") != match.Nothing || match.Object("", thing(1, "")) != match.Nothing || match.Object("", thing(1, "a")) != match.Nothing {
		t.Error("an empty word")
	}
}

// P10.2: a name that is the word goes ahead of those that begin with it, wherever both stand; several of one ID are one.
func TestObjectOfSeveral(t *testing.T) {
	for i, x := range []struct {
		l    []match.Thing
		want int
	}{
		{[]match.Thing{thing(1, "ab")}, 1},
		{[]match.Thing{thing(1, "ab"), thing(2, "a")}, 2},
		{[]match.Thing{thing(2, "a"), thing(1, "ab")}, 2},
		{[]match.Thing{thing(1, "ab"), thing(2, "ac")}, match.Ambiguous},
		{[]match.Thing{thing(1, "ab"), thing(1, "ac")}, 1},
		{[]match.Thing{thing(1, "ab", "ac")}, 1},
		{[]match.Thing{thing(1, "a", "A")}, 1},
		{[]match.Thing{thing(1, "a"), thing(1, "A")}, 1},
		{[]match.Thing{thing(1, "a"), thing(2, "A")}, match.Ambiguous},
		{[]match.Thing{thing(1, "a"), thing(2, "A"), thing(1, "a")}, match.Ambiguous},
		{[]match.Thing{thing(1, "a"), thing(1, "a"), thing(2, "A")}, match.Ambiguous},
		{[]match.Thing{thing(1, "a", "ab"), thing(2, "ab", "ac")}, 1},
		{[]match.Thing{thing(1, "x", "ab"), thing(2, "b", "y")}, 1},
		{[]match.Thing{thing(1, "ab"), thing(2, "ab"), thing(3, "a")}, 3},
		{[]match.Thing{thing(1), thing(2, ""), thing(3, "b")}, match.Failed},
		{nil, match.Failed},
		// IDs that are also one of the chapter's numbers, or nothing, are IDs as others.
		{[]match.Thing{thing(match.Failed, "a"), thing(1, "a")}, match.Ambiguous},
		{[]match.Thing{thing(match.Failed, "ab"), thing(1, "ac")}, match.Ambiguous},
		{[]match.Thing{thing(match.Failed, "a"), thing(1, "ab")}, match.Failed},
		{[]match.Thing{thing(match.Nothing, "a"), thing(1, "a")}, match.Ambiguous},
		{[]match.Thing{thing(match.Nothing, "a"), thing(1, "ab")}, match.Nothing},
		{[]match.Thing{thing(match.Ambiguous, "a"), thing(1, "ab")}, match.Ambiguous},
		{[]match.Thing{thing(0, "a"), thing(1, "a")}, match.Ambiguous},
		{[]match.Thing{thing(0, "a"), thing(1, "ab")}, 0},
		{[]match.Thing{thing(1, "a"), thing(0, "a")}, match.Ambiguous},
		{[]match.Thing{thing(1<<40, "a")}, 1 << 40},
		{[]match.Thing{thing(1<<40, "a"), thing(0, "a")}, match.Ambiguous},
	} {
		if got := match.Object("A", x.l...); got != x.want {
			t.Errorf("%d: %d, not %d", i, got, x.want)
		}
	}
}

// P10.2: a number, if it is there; what is not written as lit writes an Obj is a word as others.
func TestObjectByNumber(t *testing.T) {
	l := append(room(), thing(1<<31-1), thing(-1<<31), thing(1<<31), thing(-1<<31-1), thing(10), thing(100), thing(-7))
	for _, id := range []int{5, 7, 9, 11, -1, 0, 1<<31 - 1, -1 << 31, 10, 100, -7} {
		if got := match.Object("#"+strconv.Itoa(id), l...); got != id {
			t.Errorf("#%d: %d", id, got)
		}
	}
	for _, word := range []string{
		"#8", "#1", "#-2", "#-3", "#-5", "#12", "#2147483646", "#-2147483647",
		"#", "#-", "#07", "#00", "#-0", "#-07", "#+7", "#--7", "#7 ", "# 7", "#7x", "#x7", "##7", "7", "-1", "#0x7", "#1_0", "#7.0", "#1e1",
		"#2147483648", "#-2147483649", "#4294967303", "#18446744073709551623", "#99999999999999999999", "#\u0667", "#" + strings.Repeat("9", 1<<20), "#" + strings.Repeat("0", 1<<20) + "7",
	} {
		if got := match.Object(word, l[:6]...); got != match.Failed {
			t.Errorf("%.40q: %d", word, got)
		}
		if got := match.Object(word, l[7:]...); got != match.Failed {
			t.Errorf("%.40q: %d", word, got)
		}
	}
	// A number that is not there is Failed, also where a name is the word, or begins with it.
	for _, name := range []string{"#8", "#88", "#8 ball"} {
		if got := match.Object("#8", thing(1, name)); got != match.Failed {
			t.Errorf("#8 of %q: %d", name, got)
		}
		if got := match.Object("#8", thing(1, name), thing(8)); got != 8 {
			t.Errorf("#8 of %q and 8: %d", name, got)
		}
	}
	// What says no number can be a name, or begin one.
	for _, word := range []string{"#", "#-", "#x", "#08", "#-0", "#+8", "#8 ", "#2147483648", "#-2147483649"} {
		if got := match.Object(word, thing(1, word), thing(2, word+"y"), thing(8)); got != 1 {
			t.Errorf("%q: %d", word, got)
		}
		if got := match.Object(word, thing(2, word+"y"), thing(8)); got != 2 {
			t.Errorf("%q: %d", word, got)
		}
	}
}

// P10.2: no byte but a letter of ASCII is like another one.
func TestCase(t *testing.T) {
	for a := range 256 {
		for b := range 256 {
			s, w := string([]byte{byte(a)}), string([]byte{byte(b)})
			same := a == b || a^b == 'a'^'A' && min(a, b) >= 'A' && min(a, b) <= 'Z'
			want := match.Failed
			if same {
				want = 1
			}
			for _, name := range []string{"q" + s, "q" + s + "r"} {
				if got := match.Object("q"+w, thing(1, name)); got != want {
					t.Fatalf("%q of %q: %d, not %d", w, name, got, want)
				}
			}
		}
	}
	for _, x := range [][2]string{{"k", "\u212a"}, {"s", "\u017f"}, {"\u00e9", "\u00c9"}, {"\u03c3", "\u03a3"}} {
		if match.Object(x[0], thing(1, x[1])) != match.Failed || match.Object(x[1], thing(1, x[0])) != match.Failed {
			t.Errorf("%q and %q are alike", x[0], x[1])
		}
	}
}

// meant is the number that the chapter's words give of a word that says no number.
func meant(word string, l []match.Thing) int {
	is, begins := map[int]int{}, map[int]int{}
	for _, t := range l {
		for _, name := range t.Names {
			name, word := strings.ToLower(name), strings.ToLower(word)
			if name == word {
				is[t.ID]++
			}
			if strings.HasPrefix(name, word) {
				begins[t.ID]++
			}
		}
	}
	for _, of := range []map[int]int{is, begins} {
		for id := range of {
			if len(of) > 1 {
				return match.Ambiguous
			}
			return id
		}
	}
	return match.Failed
}

// P10.2: things by chance.
func TestObjectByChance(t *testing.T) {
	r := rand.New(rand.NewSource(10))
	names := texts("abB", 3)
	for range 20000 {
		l := make([]match.Thing, r.Intn(5))
		for i := range l {
			l[i].ID = r.Intn(4) - 1
			for range r.Intn(3) {
				l[i].Names = append(l[i].Names, names[r.Intn(len(names))])
			}
		}
		word := names[1+r.Intn(len(names)-1)]
		if got, want := match.Object(word, l...), meant(word, l); got != want {
			t.Fatalf("%q of %v: %d, not %d", word, l, got, want)
		}
	}
}

// P0.4: Object changes nothing that it is handed, and reads nothing behind its length.
func TestObjectMemory(t *testing.T) {
	l, before := room(), room()
	l[1].Names = append(l[1].Names, "behind")[:1]
	for _, word := range []string{"", "ball", "b", "x", "#7", "#8"} {
		match.Object(word, l...)
	}
	if !reflect.DeepEqual(l, before) {
		t.Error("what was handed in is another")
	}
	if got := match.Object("behind", l...); got != match.Failed {
		t.Errorf("behind the names: %d", got)
	}
	if got := match.Object("lid", l[:4]...); got != match.Failed {
		t.Errorf("behind the things: %d", got)
	}
	if got := match.Object("#11", l[:4]...); got != match.Failed {
		t.Errorf("behind the things, by number: %d", got)
	}
}

// all is what Preps has to answer.
func all() []string {
	return strings.Fields("about as at behind beside for from in into is off on onto over through to under using with")
}

// P10.3, P0.4: Preps is the chapter's list, rising, in new memory each time.
func TestPreps(t *testing.T) {
	chapter := strings.Fields("with using at to in into on onto from over through under behind beside for about is as off")
	slices.Sort(chapter)
	l := match.Preps()
	if !slices.Equal(l, chapter) || !slices.Equal(l, all()) {
		t.Fatal(l)
	}
	other := match.Preps()
	for i := range l[:cap(l)] {
		l[:cap(l)][i] = "x"
	}
	_ = append(l[:3], "y", "z")
	if !slices.Equal(other, chapter) || !slices.Equal(match.Preps(), chapter) {
		t.Error("two lists share memory")
	}
	if at, to, s := match.Prep([]string{"x", "about"}); at != 1 || to != 2 || s != "about" {
		t.Error("Prep goes by a list that was handed out")
	}
}

// P10.3: each of the words is found, in any case; what only begins with one, or begins one, is not.
func TestPrepOfEach(t *testing.T) {
	for _, p := range all() {
		for _, w := range []string{p, strings.ToUpper(p), strings.ToUpper(p[:1]) + p[1:], p[:1] + strings.ToUpper(p[1:])} {
			if at, to, s := match.Prep([]string{"ball", w}); at != 1 || to != 2 || s != p {
				t.Errorf("%q: %d, %d, %q", w, at, to, s)
			}
		}
		for _, w := range []string{p + "x", "x" + p, p + " ", " " + p, p + "\x00", p + p, p[:len(p)-1] + "\xff"} {
			if at, to, s := match.Prep([]string{w}); at != -1 || to != -1 || s != "" {
				t.Errorf("%q: %d, %d, %q", w, at, to, s)
			}
		}
	}
}

// P10.3: the first place goes ahead, whichever of them stands there.
func TestPrep(t *testing.T) {
	for _, x := range []struct {
		words  string
		at, to int
		s      string
	}{
		{"", -1, -1, ""}, {"ball", -1, -1, ""}, {"red ball box", -1, -1, ""}, {"o wit int onn i n", -1, -1, ""}, {"of out up down", -1, -1, ""},
		{"with", 0, 1, "with"}, {"in box", 0, 1, "in"}, {"ball in", 1, 2, "in"}, {"ball in box", 1, 2, "in"}, {"ball IN box on", 1, 2, "in"},
		{"ball on box in", 1, 2, "on"}, {"red ball with about as", 2, 3, "with"}, {"with at", 0, 1, "with"}, {"in to", 0, 1, "in"}, {"into in", 0, 1, "into"}, {"on onto", 0, 1, "on"}, {"a b c d e f ONTO", 6, 7, "onto"},
	} {
		if at, to, s := match.Prep(strings.Fields(x.words)); at != x.at || to != x.to || s != x.s {
			t.Errorf("%q: %d, %d, %q", x.words, at, to, s)
		}
	}
	if at, to, s := match.Prep([]string{"", " ", "in box", "\u017f", "i\u017f", "a\u017f", "\u0130n", "is"}); at != 7 || to != 8 || s != "is" {
		t.Errorf("%d, %d, %q", at, to, s)
	}
}

// P0.4: Prep changes nothing that it is handed, and reads nothing behind its length.
func TestPrepMemory(t *testing.T) {
	words := []string{"ball", "IN", "Box", "with"}
	before := slices.Clone(words)
	if at, to, s := match.Prep(words[:1]); at != -1 || to != -1 || s != "" {
		t.Errorf("behind the words: %d, %d, %q", at, to, s)
	}
	match.Prep(words)
	if !slices.Equal(words, before) {
		t.Error(words)
	}
}
