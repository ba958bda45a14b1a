package val_test

import (
	"math"
	"reflect"
	"strings"
	"testing"

	"inglenook/api"
	"inglenook/val"
)

// inLists is v in so many lists, one in the other.
func inLists(v api.Value, n int) api.Value {
	for range n {
		v = api.Value{Kind: api.List, L: []api.Value{v}}
	}
	return v
}

// list is a List of just these items, in the memory that is handed in.
func list(l ...api.Value) api.Value { return api.Value{Kind: api.List, L: l} }

// ints is a List of so many Ints.
func ints(n int) api.Value { return list(make([]api.Value, n)...) }

// P1.1: the values of a kind have what the kind has, and nothing else.
func TestMakers(t *testing.T) {
	for i, x := range []struct{ got, want api.Value }{
		{val.I(0), api.Value{}},
		{val.I(math.MinInt64), api.Value{Kind: api.Int, N: math.MinInt64}},
		{val.I(math.MaxInt64), api.Value{Kind: api.Int, N: math.MaxInt64}},
		{val.O(-1), api.Value{Kind: api.Obj, N: -1}},
		{val.O(1 << 40), api.Value{Kind: api.Obj, N: 1 << 40}},
		{val.S(""), api.Value{Kind: api.Str}},
		{val.S("a\x00\xff"), api.Value{Kind: api.Str, S: "a\x00\xff"}},
		{val.E(api.EQuota), api.Value{Kind: api.Err, N: 14}},
		{val.E(-7), api.Value{Kind: api.Err, N: -7}},
		{val.L(), api.Value{Kind: api.List}},
		{val.L(val.I(1), val.L(val.S("x"))), list(val.I(1), list(val.S("x")))},
	} {
		if !reflect.DeepEqual(x.got, x.want) {
			t.Errorf("%d: %v, not %v", i, x.got, x.want)
		}
	}
}

// P1.1, P0.4: L keeps nothing of what it is handed, at no level, and leaves the spare room alone.
func TestListIsNewMemory(t *testing.T) {
	room := []api.Value{list(val.I(1)), val.I(2), val.I(3)}
	handed := room[:2]
	v := val.L(handed...)
	handed[0].L[0] = val.I(7)
	handed[1] = val.I(8)
	if want := list(list(val.I(1)), val.I(2)); !reflect.DeepEqual(v, want) {
		t.Errorf("%v, not %v", v, want)
	}
	v.L = append(v.L, val.S("behind"))
	v.L[0].L[0] = val.S("inside")
	if want := []api.Value{list(val.I(7)), val.I(8), val.I(3)}; !reflect.DeepEqual(room, want) {
		t.Errorf("what was handed in is %v, not %v", room, want)
	}
	inner := val.L(val.I(1))
	twice := val.L(inner, inner)
	twice.L[0].L[0] = val.I(9)
	if twice.L[1].L[0].N != 1 || inner.L[0].N != 1 {
		t.Errorf("two items share memory: %v, %v", twice, inner)
	}
}

// P1.1: Size and Deep.
func TestSizeAndDeep(t *testing.T) {
	for i, x := range []struct {
		v          api.Value
		size, deep int
	}{
		{val.I(math.MaxInt64), 1, 1},
		{val.O(-1), 1, 1},
		{val.E(api.EPerm), 1, 1},
		{val.S(""), 1, 1},
		{val.S("abc"), 4, 1},
		{val.L(), 1, 1},
		{list([]api.Value{}...), 1, 1},
		{val.L(val.I(1)), 2, 2},
		{val.L(val.I(1), val.S("ab")), 5, 2},
		{val.L(val.S(""), val.S("")), 3, 2},
		{val.L(val.L(), val.L(val.L(val.S("xyz"))), val.I(0)), 9, 4},
		{val.L(val.L(val.L()), val.I(5)), 4, 3},
		{inLists(val.L(), api.MaxNest-1), 40, 40},
		{inLists(val.L(), api.MaxNest), 41, 41},
		{inLists(val.I(0), api.MaxNest), 41, 41},
		{ints(api.MaxSize), 4097, 2},
		{val.S(strings.Repeat("a", api.MaxSize)), 4097, 1},
	} {
		if val.Size(x.v) != x.size || val.Deep(x.v) != x.deep {
			t.Errorf("%d: size %d, not %d; deep %d, not %d", i, val.Size(x.v), x.size, val.Deep(x.v), x.deep)
		}
	}
}

// valids asks Valid of each.
type valids []struct {
	name string
	v    api.Value
	want error
}

func (all valids) ask(t *testing.T) {
	t.Helper()
	for _, x := range all {
		if err := val.Valid(x.v); err != x.want {
			t.Errorf("%s: %v, not %v", x.name, err, x.want)
		}
	}
}

// P1.1: Valid lets right values pass, and knows each fault at its edge.
func TestValidFaults(t *testing.T) {
	one := []api.Value{{}}
	valids{
		{"nothing at all", api.Value{}, nil},
		{"the least Int", val.I(math.MinInt64), nil},
		{"the greatest Int", val.I(math.MaxInt64), nil},
		{"the least Obj", val.O(math.MinInt32), nil},
		{"the greatest Obj", val.O(math.MaxInt32), nil},
		{"an Obj too small", val.O(math.MinInt32 - 1), api.ErrRange},
		{"an Obj too great", val.O(math.MaxInt32 + 1), api.ErrRange},
		{"an Obj far too small", val.O(math.MinInt64), api.ErrRange},
		{"an empty Str", val.S(""), nil},
		{"an empty List", val.L(), nil},
		{"a List of all kinds", val.L(val.I(-1), val.O(-1), val.S(" ~"), val.E(0), val.L(val.L())), nil},
		{"empty lists are none", api.Value{Kind: api.Int, N: 3, L: []api.Value{}}, nil},
		{"an empty list in a Str", api.Value{Kind: api.Str, S: "s", L: []api.Value{}}, nil},
		{"an Int with a text", api.Value{Kind: api.Int, S: "x"}, api.ErrShape},
		{"an Int with items", api.Value{Kind: api.Int, L: one}, api.ErrShape},
		{"an Obj with a text", api.Value{Kind: api.Obj, S: "x"}, api.ErrShape},
		{"an Obj with items", api.Value{Kind: api.Obj, L: one}, api.ErrShape},
		{"a Str with a number", api.Value{Kind: api.Str, S: "x", N: 1}, api.ErrShape},
		{"a Str with items", api.Value{Kind: api.Str, S: "x", L: one}, api.ErrShape},
		{"an Err with a text", api.Value{Kind: api.Err, S: "x"}, api.ErrShape},
		{"an Err with items", api.Value{Kind: api.Err, L: one}, api.ErrShape},
		{"a List with a number", api.Value{Kind: api.List, N: -1, L: one}, api.ErrShape},
		{"a List with a text", api.Value{Kind: api.List, S: "x", L: one}, api.ErrShape},
		{"40 lists", inLists(val.L(), 39), nil},
		{"41 lists", inLists(val.L(), 40), api.ErrDeep},
		{"an Int in 39 lists", inLists(val.I(1), 39), nil},
		{"an Int in 40 lists", inLists(val.I(1), 40), api.ErrDeep},
		{"a List of 4095", ints(4095), nil},
		{"a List of 4096", ints(4096), api.ErrMany},
		{"a Str of 4095", val.S(strings.Repeat("~", 4095)), nil},
		{"a Str of 4096", val.S(strings.Repeat("~", 4096)), api.ErrMany},
		{"two lists that fill it", val.L(ints(2046), ints(2047)), nil},
		{"two lists too great", val.L(ints(2047), ints(2047)), api.ErrMany},
		{"a Str that fills it", val.L(val.S(strings.Repeat("a", 2000)), val.S(strings.Repeat("b", 2093))), nil},
		{"a Str too great", val.L(val.S(strings.Repeat("a", 2000)), val.S(strings.Repeat("b", 2094))), api.ErrMany},
	}.ask(t)
}

// P1.1: which kinds there are, which Errs, which bytes.
func TestValidNumbersAndBytes(t *testing.T) {
	for kind := -3; kind <= 9; kind++ {
		if err := val.Valid(api.Value{Kind: kind}); (err == nil) != (kind >= 0 && kind <= 4) || err != nil && err != api.ErrRange {
			t.Errorf("kind %d: %v", kind, err)
		}
	}
	for code := -3; code <= 20; code++ {
		if err := val.Valid(val.E(code)); (err == nil) != (code >= 0 && code <= 14) || err != nil && err != api.ErrRange {
			t.Errorf("code %d: %v", code, err)
		}
	}
	for b := range 256 {
		for _, s := range []string{string([]byte{byte(b)}), string([]byte{byte(b), 'a'}), string([]byte{'a', byte(b)}), string([]byte{'a', byte(b), 'a'})} {
			if err := val.Valid(val.S(s)); (err == nil) != (b >= 32 && b <= 126) || err != nil && err != api.ErrShape {
				t.Errorf("%q: %v", s, err)
			}
		}
	}
}

// P1.1: where several faults hold, Valid answers the one that is met first.
func TestValidOrder(t *testing.T) {
	long := val.S(strings.Repeat("\n", api.MaxSize))
	none := api.Value{Kind: 9}
	odd := val.S("\n")
	valids{
		{"deep ahead of many", inLists(long, 40), api.ErrDeep},
		{"deep ahead of range", inLists(none, 40), api.ErrDeep},
		{"deep ahead of shape", inLists(odd, 40), api.ErrDeep},
		{"many ahead of shape", long, api.ErrMany},
		{"many ahead of range", list(append(ints(4095).L, none)...), api.ErrMany},
		{"range ahead of shape: an Obj", api.Value{Kind: api.Obj, N: 1 << 31, S: "x"}, api.ErrRange},
		{"range ahead of shape: an Err", api.Value{Kind: api.Err, N: 15, L: []api.Value{{}}}, api.ErrRange},
		{"range ahead of shape: no kind", api.Value{Kind: 5, N: 1, S: "\n"}, api.ErrRange},
		{"the first item: many", list(long, inLists(val.L(), 40)), api.ErrMany},
		{"the first item: deep", list(inLists(val.L(), 40), long), api.ErrDeep},
		{"the first item: range", list(val.I(1), none, odd, long), api.ErrRange},
		{"the first item: shape", list(val.I(1), odd, none, long), api.ErrShape},
		{"an item's items ahead of the next", list(list(odd), none), api.ErrShape},
		{"a list ahead of its items", api.Value{Kind: api.List, N: 1, L: []api.Value{none, long}}, api.ErrShape},
		{"a fault ahead of what is too many", list(append([]api.Value{odd}, ints(5000).L...)...), api.ErrShape},
		{"what isn't walked isn't counted", list(api.Value{Kind: api.Int, L: ints(5000).L}), api.ErrShape},
		{"a text of none counts nothing", api.Value{Kind: api.Int, S: strings.Repeat("a", 5000)}, api.ErrShape},
	}.ask(t)
}

// P1.1, P0.1: Valid ends on lists that hold themselves, or each other many times; and it changes nothing.
func TestValidEnds(t *testing.T) {
	self := ints(2)
	self.L[0] = self
	self.L[1] = self
	late := ints(api.MaxSize)
	late.L[api.MaxSize-1] = late
	wide := val.I(0)
	for range 39 {
		wide = list(wide, wide)
	}
	valids{
		{"holds itself", self, api.ErrDeep},
		{"holds itself behind many", late, api.ErrMany},
		{"2^39 Ints", wide, api.ErrMany},
	}.ask(t)
	v := list(val.I(1), list(val.S("a"), val.S("\n")))
	val.Valid(v)
	if want := list(val.I(1), list(val.S("a"), val.S("\n"))); !reflect.DeepEqual(v, want) {
		t.Errorf("Valid left %v", v)
	}
}

// rising is values of which each is less than all behind it.
func rising() []api.Value {
	return []api.Value{
		val.I(math.MinInt64), val.I(-2), val.I(-1), val.I(0), val.I(1), val.I(math.MaxInt64),
		val.O(math.MinInt32), val.O(-1), val.O(0), val.O(1), val.O(math.MaxInt32),
		val.S(""), val.S(" "), val.S("B"), val.S("Ba"), val.S("a"), val.S("a "), val.S("aa"), val.S("ab"), val.S("b"), val.S("~"),
		val.E(0), val.E(1), val.E(14),
		val.L(),
		val.L(val.I(-1)),
		val.L(val.I(1)), val.L(val.I(1), val.I(0)), val.L(val.I(1), val.I(0), val.I(0)), val.L(val.I(1), val.S("")),
		val.L(val.I(2)),
		val.L(val.O(1)),
		val.L(val.S("")), val.L(val.S("a")), val.L(val.S("b")),
		val.L(val.E(0)),
		val.L(val.L()), val.L(val.L(), val.I(0)), val.L(val.L(val.I(1))), val.L(val.L(val.I(1), val.I(1))), val.L(val.L(val.I(2))), val.L(val.L(val.L())),
	}
}

// P1.2: Same and Less, of each value with each.
func TestSameAndLess(t *testing.T) {
	row := rising()
	for i, a := range row {
		for j, b := range rising() {
			if val.Less(a, b) != (i < j) {
				t.Errorf("Less(%v, %v): %v", a, b, val.Less(a, b))
			}
			if val.Same(a, b) != (i == j) {
				t.Errorf("Same(%v, %v): %v", a, b, val.Same(a, b))
			}
		}
	}
	if !reflect.DeepEqual(row, rising()) {
		t.Error("they changed what they were handed")
	}
}

// P1.2, P0.4: nil and the empty list are the same.
func TestEmptyLists(t *testing.T) {
	a, b := api.Value{Kind: api.List}, list(make([]api.Value, 0, 3)...)
	if !val.Same(a, b) || !val.Same(list(b), list(a)) || val.Less(a, b) || val.Less(b, a) {
		t.Error("nil and the empty list differ")
	}
}

// P1.2: True.
func TestTrue(t *testing.T) {
	for i, x := range []struct {
		v    api.Value
		want bool
	}{
		{val.I(0), false}, {val.I(1), true}, {val.I(-1), true}, {val.I(math.MinInt64), true},
		{val.O(0), false}, {val.O(1), false}, {val.O(-1), false},
		{val.S(""), false}, {val.S(" "), true}, {val.S("0"), true},
		{val.E(0), false}, {val.E(1), false},
		{val.L(), false}, {list(make([]api.Value, 0, 3)...), false}, {val.L(val.I(0)), true}, {val.L(val.L()), true},
	} {
		if val.True(x.v) != x.want {
			t.Errorf("%d: %v", i, x.v)
		}
	}
}

// P1.2: Clone is the same.
func TestCloneIsTheSame(t *testing.T) {
	for _, v := range rising() {
		if c := val.Clone(v); !val.Same(v, c) || !reflect.DeepEqual(v, c) {
			t.Errorf("%v became %v", v, c)
		}
	}
}

// P1.2, P0.4: Clone shares no memory with what it was handed, and no two lists of it share any.
func TestCloneIsNewMemory(t *testing.T) {
	inner := []api.Value{val.I(1), val.I(2), val.I(3)}
	v := list(val.S("a"), list(inner[:2]...), list(inner[:2]...))
	c := val.Clone(v)
	c.L[1].L[0] = val.I(7)
	c.L[1].L = append(c.L[1].L, val.I(8))
	c.L = append(c.L, val.I(9))
	if want := list(val.S("a"), list(val.I(1), val.I(2))); !reflect.DeepEqual(list(c.L[0], c.L[2]), want) {
		t.Errorf("two lists share memory: %v", c)
	}
	if want := []api.Value{val.I(1), val.I(2), val.I(3)}; !reflect.DeepEqual(inner, want) {
		t.Errorf("what was handed in is %v", inner)
	}
	d := val.Clone(v)
	inner[0] = val.S("x")
	v.L[0] = val.S("b")
	if want := list(val.S("a"), list(val.I(1), val.I(2)), list(val.I(1), val.I(2))); !reflect.DeepEqual(d, want) {
		t.Errorf("%v, not %v", d, want)
	}
}
