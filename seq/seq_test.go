package seq_test

import (
	"math"
	"math/rand"
	"reflect"
	"runtime"
	"slices"
	"strings"
	"testing"

	"inglenook/api"
	"inglenook/lit"
	"inglenook/seq"
	"inglenook/val"
)

// of is the items of the list that s says.
func of(s string) []api.Value {
	v, err := lit.Read(s)
	if err != nil || v.Kind != api.List {
		panic(s)
	}
	return v.L
}

// one is the value that s says.
func one(s string) api.Value { return of("{" + s + "}")[0] }

func list(l []api.Value) api.Value { return api.Value{Kind: api.List, L: l} }

func text(l []api.Value) string { return lit.Text(list(l)) }

// ints is so many Ints.
func ints(n int) []api.Value { return make([]api.Value, n) }

// nest is so many lists, one in the other.
func nest(n int) api.Value {
	v := val.L()
	for range n - 1 {
		v = list([]api.Value{v})
	}
	return v
}

// same asks for a list and a code; beside another code than ENone there has to be no list.
func same(t *testing.T, what string, got []api.Value, code int, want string, wantCode int) {
	t.Helper()
	if code != wantCode || wantCode == api.ENone && text(got) != want || wantCode != api.ENone && len(got) != 0 {
		t.Errorf("%s: %s, %d, not %s, %d", what, text(got), code, want, wantCode)
	}
}

// out is places that no list of the tests has.
func out() []int64 {
	return []int64{math.MinInt64, math.MinInt64 + 1, -1 << 32, 1 - 1<<32, 2 - 1<<32, -2, -1, 0, 4, 5, 1 << 32, 1<<32 + 1, 1<<32 + 2, math.MaxInt64 - 1, math.MaxInt64}
}

// P4.1: Get, Put and Delete at each place of a list.
func TestPlaces(t *testing.T) {
	l := of(`{1, {2, {3}}, "x"}`)
	for i, x := range []struct{ get, put, del string }{
		{`1`, `{E_PERM, {2, {3}}, "x"}`, `{{2, {3}}, "x"}`},
		{`{2, {3}}`, `{1, E_PERM, "x"}`, `{1, "x"}`},
		{`"x"`, `{1, {2, {3}}, E_PERM}`, `{1, {2, {3}}}`},
	} {
		at := int64(i) + 1
		v, code := seq.Get(l, at)
		if code != api.ENone || lit.Text(v) != x.get {
			t.Errorf("Get %d: %s, %d", at, lit.Text(v), code)
		}
		got, code := seq.Put(l, at, val.E(api.EPerm))
		same(t, "Put", got, code, x.put, api.ENone)
		got, code = seq.Delete(l, at)
		same(t, "Delete", got, code, x.del, api.ENone)
	}
	got, code := seq.Delete(of(`{5}`), 1)
	same(t, "Delete the only one", got, code, `{}`, api.ENone)
	got, code = seq.Put(of(`{5}`), 1, val.L())
	same(t, "Put in the only one's place", got, code, `{{}}`, api.ENone)
}

// P4.1, P0.3: Get, Put and Delete out of a list: ERange, and nothing beside; ERange too where what would be put is too deep or too great.
func TestPlacesOut(t *testing.T) {
	l := of(`{1, {2}, "x"}`)
	for _, i := range out() {
		if v, code := seq.Get(l, i); code != api.ERange || !reflect.DeepEqual(v, api.Value{}) {
			t.Errorf("Get %d: %v, %d", i, v, code)
		}
		for _, v := range []api.Value{val.I(9), nest(40), val.S(strings.Repeat("a", 4095))} {
			got, code := seq.Put(l, i, v)
			same(t, "Put", got, code, "", api.ERange)
		}
		got, code := seq.Delete(l, i)
		same(t, "Delete", got, code, "", api.ERange)
	}
	for _, l := range [][]api.Value{nil, {}, make([]api.Value, 0, 3), ints(3)[:0]} {
		for i := int64(-1); i <= 2; i++ {
			if v, code := seq.Get(l, i); code != api.ERange || !reflect.DeepEqual(v, api.Value{}) {
				t.Errorf("Get %d of none: %v, %d", i, v, code)
			}
			got, code := seq.Put(l, i, val.I(9))
			same(t, "Put into none", got, code, "", api.ERange)
			got, code = seq.Delete(l, i)
			same(t, "Delete of none", got, code, "", api.ERange)
		}
	}
}

// P4.1: Insert at each place, below, and above.
func TestInsert(t *testing.T) {
	for _, x := range []struct {
		l    string
		i    int64
		want string
	}{
		{`{1, 3}`, 2, `{1, E_DIV, 3}`}, {`{1, 3}`, 1, `{E_DIV, 1, 3}`}, {`{1, 3}`, 3, `{1, 3, E_DIV}`},
		{`{1, 3}`, 0, `{E_DIV, 1, 3}`}, {`{1, 3}`, -1, `{E_DIV, 1, 3}`}, {`{1, 3}`, math.MinInt64, `{E_DIV, 1, 3}`}, {`{1, 3}`, math.MinInt64 + 1, `{E_DIV, 1, 3}`}, {`{1, 3}`, 2 - 1<<32, `{E_DIV, 1, 3}`},
		{`{1, 3}`, 4, `{1, 3, E_DIV}`}, {`{1, 3}`, math.MaxInt64, `{1, 3, E_DIV}`}, {`{1, 3}`, math.MaxInt64 - 1, `{1, 3, E_DIV}`}, {`{1, 3}`, 1<<32 + 1, `{1, 3, E_DIV}`},
		{`{}`, math.MinInt64, `{E_DIV}`}, {`{}`, 0, `{E_DIV}`}, {`{}`, 1, `{E_DIV}`}, {`{}`, 2, `{E_DIV}`}, {`{}`, math.MaxInt64, `{E_DIV}`},
	} {
		got, code := seq.Insert(of(x.l), val.E(api.EDiv), x.i)
		same(t, "Insert", got, code, x.want, api.ENone)
	}
	got, code := seq.Insert(of(`{1, 3}`), val.I(2), 2)
	same(t, "the example", got, code, `{1, 2, 3}`, api.ENone)
	got, code = seq.Insert(nil, val.L(), 1)
	same(t, "Insert into nil", got, code, `{{}}`, api.ENone)
}

// P4.1: Cut at all places in and around short lists.
func TestCut(t *testing.T) {
	for _, l := range [][]api.Value{nil, {}, of(`{7}`), of(`{1, {2}, "x"}`)} {
		many := int64(len(l))
		for from := int64(-2); from <= many+3; from++ {
			for to := int64(-2); to <= many+3; to++ {
				want, code := "{}", api.ENone
				if from <= to {
					if from >= 1 && to <= many {
						want = text(l[from-1 : to])
					} else {
						code = api.ERange
					}
				}
				got, is := seq.Cut(l, from, to)
				same(t, "Cut", got, is, want, code)
			}
		}
	}
}

// P4.1: Cut at places far out: where from is above to, it is empty, wherever they are.
func TestCutFarOut(t *testing.T) {
	l := of(`{1, 2, 3}`)
	for _, x := range []struct {
		from, to int64
		code     int
	}{
		{math.MinInt64, math.MaxInt64, api.ERange}, {math.MaxInt64, math.MinInt64, api.ENone}, {math.MinInt64, math.MinInt64, api.ERange}, {math.MaxInt64, math.MaxInt64, api.ERange},
		{math.MinInt64, 2, api.ERange}, {2, math.MaxInt64, api.ERange}, {2, math.MinInt64, api.ENone}, {math.MaxInt64, 2, api.ENone},
		{1, 1<<32 + 2, api.ERange}, {1<<32 + 1, 1<<32 + 2, api.ERange}, {1 - 1<<32, 2, api.ERange}, {1, 0, api.ENone}, {0, -1, api.ENone}, {5, 4, api.ENone},
	} {
		got, code := seq.Cut(l, x.from, x.to)
		same(t, "Cut", got, code, "{}", x.code)
	}
}

// P4.1: Cat.
func TestCat(t *testing.T) {
	for _, x := range []struct{ a, b, want string }{
		{`{}`, `{}`, `{}`}, {`{1}`, `{}`, `{1}`}, {`{}`, `{1}`, `{1}`}, {`{1, "a"}`, `{{2}, 1}`, `{1, "a", {2}, 1}`}, {`{{}}`, `{{}}`, `{{}, {}}`},
	} {
		got, code := seq.Cat(of(x.a), of(x.b))
		same(t, "Cat", got, code, x.want, api.ENone)
	}
	l := of(`{1, {2}}`)
	got, code := seq.Cat(l, l)
	same(t, "Cat of one with itself", got, code, `{1, {2}, 1, {2}}`, api.ENone)
	got, code = seq.Cat(l[:1], l[1:])
	same(t, "Cat of two parts", got, code, `{1, {2}}`, api.ENone)
}

// P4.2: Find, With and Without go by val.Same, and by the first.
func TestFindWithWithout(t *testing.T) {
	for _, x := range []struct {
		l, v          string
		find          int64
		with, without string
	}{
		{`{}`, `1`, 0, `{1}`, `{}`},
		{`{1, 2, 1}`, `1`, 1, `{1, 2, 1}`, `{2, 1}`},
		{`{2, 1, 1}`, `1`, 2, `{2, 1, 1}`, `{2, 1}`},
		{`{2, 3, 1}`, `1`, 3, `{2, 3, 1}`, `{2, 3}`},
		{`{1}`, `1`, 1, `{1}`, `{}`},
		{`{1}`, `2`, 0, `{1, 2}`, `{1}`},
		{`{#1, "1", E_TYPE, {1}}`, `1`, 0, `{#1, "1", E_TYPE, {1}, 1}`, `{#1, "1", E_TYPE, {1}}`},
		{`{1, "1", E_TYPE, {1}}`, `#1`, 0, `{1, "1", E_TYPE, {1}, #1}`, `{1, "1", E_TYPE, {1}}`},
		{`{#1, "1", E_TYPE, {1}, 1}`, `E_TYPE`, 3, `{#1, "1", E_TYPE, {1}, 1}`, `{#1, "1", {1}, 1}`},
		{`{"a", "A", "ab", ""}`, `"A"`, 2, `{"a", "A", "ab", ""}`, `{"a", "ab", ""}`},
		{`{"a", "A", "ab", ""}`, `""`, 4, `{"a", "A", "ab", ""}`, `{"a", "A", "ab"}`},
		{`{"a", "A", "ab"}`, `"b"`, 0, `{"a", "A", "ab", "b"}`, `{"a", "A", "ab"}`},
		{`{{1}, {1, 2}, {{1}}, {}}`, `{1, 2}`, 2, `{{1}, {1, 2}, {{1}}, {}}`, `{{1}, {{1}}, {}}`},
		{`{{1}, {1, 2}, {{1}}, {}}`, `{}`, 4, `{{1}, {1, 2}, {{1}}, {}}`, `{{1}, {1, 2}, {{1}}}`},
		{`{{1}, {1, 2}}`, `{2, 1}`, 0, `{{1}, {1, 2}, {2, 1}}`, `{{1}, {1, 2}}`},
		{`{0, "", #0}`, `{}`, 0, `{0, "", #0, {}}`, `{0, "", #0}`},
	} {
		l, v := of(x.l), one(x.v)
		if got := seq.Find(l, v); got != x.find {
			t.Errorf("Find %s in %s: %d", x.v, x.l, got)
		}
		got, code := seq.With(l, v)
		same(t, "With "+x.v, got, code, x.with, api.ENone)
		same(t, "Without "+x.v, seq.Without(l, v), api.ENone, x.without, api.ENone)
	}
	empty := list(make([]api.Value, 0, 3))
	if seq.Find([]api.Value{val.I(1), {Kind: api.List}}, empty) != 2 || seq.Find([]api.Value{val.I(1), empty}, val.L()) != 2 {
		t.Error("nil and the empty list differ")
	}
}

// P4.2: Sort.
func TestSort(t *testing.T) {
	for _, x := range []struct{ l, want string }{
		{`{}`, `{}`}, {`{1}`, `{1}`}, {`{2, 1}`, `{1, 2}`}, {`{1, 2}`, `{1, 2}`}, {`{3, 1, 2, 1, 3}`, `{1, 1, 2, 3, 3}`}, {`{10, 9, -1, -10}`, `{-10, -1, 9, 10}`},
		{`{9223372036854775807, -9223372036854775808, 0}`, `{-9223372036854775808, 0, 9223372036854775807}`},
		{`{"b", "a", "B", "ab", "", "10", "9"}`, `{"", "10", "9", "B", "a", "ab", "b"}`},
		{`{{}, E_DIV, "b", "a", #2, 5, -1, #-1, {1}, E_NONE}`, `{-1, 5, #-1, #2, "a", "b", E_NONE, E_DIV, {}, {1}}`},
		{`{{2}, {1, 2}, {1}, {{}}, {1, 1, 1}, {}, {"a"}}`, `{{}, {1}, {1, 1, 1}, {1, 2}, {2}, {"a"}, {{}}}`},
	} {
		same(t, "Sort", seq.Sort(of(x.l)), api.ENone, x.want, api.ENone)
	}
}

// P4.2: Sort of long lists, in all sorts of order, is what stands so that none is less than the one ahead of it, and it has lost none and made none.
func TestSortLong(t *testing.T) {
	rising := []api.Value{}
	for i := range 1000 {
		rising = append(rising, val.I(int64(i/3)), val.S(strings.Repeat("a", i%7)), val.L(val.I(int64(i%5))))
	}
	rising = seq.Sort(rising)
	for i := range rising[1:] {
		if val.Less(rising[i+1], rising[i]) {
			t.Fatalf("%d: %s ahead of %s", i, lit.Text(rising[i]), lit.Text(rising[i+1]))
		}
	}
	draw := rand.New(rand.NewSource(1))
	for range 5 {
		mixed := slices.Clone(rising)
		draw.Shuffle(len(mixed), func(i, j int) { mixed[i], mixed[j] = mixed[j], mixed[i] })
		if got := seq.Sort(mixed); !reflect.DeepEqual(got, rising) {
			t.Error("two orders of the same items came out otherwise")
		}
	}
	if len(rising) != 3000 || !reflect.DeepEqual(seq.Sort(seq.Turn(rising)), rising) || !reflect.DeepEqual(seq.Sort(rising), rising) {
		t.Error(len(rising))
	}
}

// P4.2: Turn.
func TestTurn(t *testing.T) {
	for _, x := range []struct{ l, want string }{
		{`{}`, `{}`}, {`{1}`, `{1}`}, {`{1, 2}`, `{2, 1}`}, {`{1, {2, 3}, "ab"}`, `{"ab", {2, 3}, 1}`}, {`{1, 2, 3, 4}`, `{4, 3, 2, 1}`}, {`{1, 1, 2}`, `{2, 1, 1}`},
	} {
		same(t, "Turn", seq.Turn(of(x.l)), api.ENone, x.want, api.ENone)
	}
}

// full is a list of which the size, as a List, is MaxSize.
func full() []api.Value { return ints(api.MaxSize - 1) }

// P4.1, P4.2: what is made may have MaxSize, and no more.
func TestTooGreat(t *testing.T) {
	most := val.S(strings.Repeat("a", api.MaxSize-2))
	inner := list(ints(api.MaxSize - 2))
	for i, x := range []struct {
		make func() ([]api.Value, int)
		many int
		code int
	}{
		{func() ([]api.Value, int) { return seq.Cut(full(), 1, 4095) }, 4095, 0},
		{func() ([]api.Value, int) { return seq.Cut(ints(5000), 1, 4096) }, 0, api.EQuota},
		{func() ([]api.Value, int) { return seq.Cut(ints(5000), 905, 4999) }, 4095, 0},
		{func() ([]api.Value, int) { return seq.Cut(ints(5000), 1, 5000) }, 0, api.EQuota},
		{func() ([]api.Value, int) { return seq.Cut(ints(5000), 1, 5001) }, 0, api.ERange},
		{func() ([]api.Value, int) { return seq.Cut(ints(5000), 5000, 1) }, 0, 0},
		{func() ([]api.Value, int) { return seq.Put(full(), 4095, val.S("")) }, 4095, 0},
		{func() ([]api.Value, int) { return seq.Put(full(), 4095, val.S("a")) }, 0, api.EQuota},
		{func() ([]api.Value, int) { return seq.Put(full(), 1, val.L(val.I(1))) }, 0, api.EQuota},
		{func() ([]api.Value, int) { return seq.Put(full(), 4096, val.S("a")) }, 0, api.ERange},
		{func() ([]api.Value, int) { return seq.Put(ints(1), 1, most) }, 1, 0},
		{func() ([]api.Value, int) { return seq.Put(ints(2), 1, most) }, 0, api.EQuota},
		{func() ([]api.Value, int) { return seq.Put(ints(1), 1, inner) }, 1, 0},
		{func() ([]api.Value, int) { return seq.Put(ints(2), 1, inner) }, 0, api.EQuota},
		{func() ([]api.Value, int) { return seq.Insert(ints(4094), val.I(1), 9) }, 4095, 0},
		{func() ([]api.Value, int) { return seq.Insert(full(), val.I(1), 9) }, 0, api.EQuota},
		{func() ([]api.Value, int) { return seq.Insert(nil, most, 1) }, 1, 0},
		{func() ([]api.Value, int) { return seq.Insert(ints(1), most, 1) }, 0, api.EQuota},
		{func() ([]api.Value, int) { return seq.Delete(ints(4096), 1) }, 4095, 0},
		{func() ([]api.Value, int) { return seq.Delete(ints(4097), 1) }, 0, api.EQuota},
		{func() ([]api.Value, int) { return seq.Delete(ints(4097), 4098) }, 0, api.ERange},
		{func() ([]api.Value, int) { return seq.Cat(ints(2000), ints(2095)) }, 4095, 0},
		{func() ([]api.Value, int) { return seq.Cat(ints(2001), ints(2095)) }, 0, api.EQuota},
		{func() ([]api.Value, int) { return seq.Cat(full(), nil) }, 4095, 0},
		{func() ([]api.Value, int) { return seq.Cat(nil, ints(4096)) }, 0, api.EQuota},
		{func() ([]api.Value, int) { return seq.With(ints(4094), val.I(1)) }, 4095, 0},
		{func() ([]api.Value, int) { return seq.With(full(), val.I(1)) }, 0, api.EQuota},
		{func() ([]api.Value, int) { return seq.With(full(), val.I(0)) }, 4095, 0},
		{func() ([]api.Value, int) { return seq.With(ints(4096), val.I(0)) }, 0, api.EQuota},
		{func() ([]api.Value, int) { return seq.With(ints(1), most) }, 0, api.EQuota},
	} {
		if got, code := x.make(); len(got) != x.many || code != x.code {
			t.Errorf("%d: %d items, %d", i, len(got), code)
		}
	}
}

// P4.1, P4.2: what is made may be MaxNest deep, and no more; too deep goes ahead of too great, and ERange ahead of both.
func TestTooDeep(t *testing.T) {
	most, more := nest(39), nest(40)
	deep := []api.Value{val.I(1), more, val.I(2)}
	great := append(full(), more)
	for i, x := range []struct {
		make func() ([]api.Value, int)
		many int
		code int
	}{
		{func() ([]api.Value, int) { return seq.Put(ints(1), 1, most) }, 1, 0},
		{func() ([]api.Value, int) { return seq.Put(ints(1), 1, more) }, 0, api.EMaxRec},
		{func() ([]api.Value, int) { return seq.Put(full(), 1, more) }, 0, api.EMaxRec},
		{func() ([]api.Value, int) { return seq.Put(full(), 1, most) }, 0, api.EQuota},
		{func() ([]api.Value, int) { return seq.Put(full(), 0, more) }, 0, api.ERange},
		{func() ([]api.Value, int) { return seq.Put(deep, 2, val.I(3)) }, 3, 0},
		{func() ([]api.Value, int) { return seq.Insert(nil, most, 1) }, 1, 0},
		{func() ([]api.Value, int) { return seq.Insert(nil, more, 1) }, 0, api.EMaxRec},
		{func() ([]api.Value, int) { return seq.Insert(full(), more, 4096) }, 0, api.EMaxRec},
		{func() ([]api.Value, int) { return seq.With(nil, most) }, 1, 0},
		{func() ([]api.Value, int) { return seq.With(nil, more) }, 0, api.EMaxRec},
		{func() ([]api.Value, int) { return seq.With(full(), more) }, 0, api.EMaxRec},
		{func() ([]api.Value, int) { return seq.With(deep, val.I(1)) }, 0, api.EMaxRec},
		{func() ([]api.Value, int) { return seq.Cat([]api.Value{most}, []api.Value{most}) }, 2, 0},
		{func() ([]api.Value, int) { return seq.Cat([]api.Value{most}, []api.Value{more}) }, 0, api.EMaxRec},
		{func() ([]api.Value, int) { return seq.Cat([]api.Value{more}, full()) }, 0, api.EMaxRec},
		{func() ([]api.Value, int) { return seq.Cat(full(), []api.Value{more}) }, 0, api.EMaxRec},
		{func() ([]api.Value, int) { return seq.Cat(full(), []api.Value{most}) }, 0, api.EQuota},
		{func() ([]api.Value, int) { return seq.Cut(deep, 1, 2) }, 0, api.EMaxRec},
		{func() ([]api.Value, int) { return seq.Cut(deep, 3, 3) }, 1, 0},
		{func() ([]api.Value, int) { return seq.Cut(deep, 1, 4) }, 0, api.ERange},
		{func() ([]api.Value, int) { return seq.Cut(great, 1, 4096) }, 0, api.EMaxRec},
		{func() ([]api.Value, int) { return seq.Delete(deep, 1) }, 0, api.EMaxRec},
		{func() ([]api.Value, int) { return seq.Delete(deep, 2) }, 2, 0},
		{func() ([]api.Value, int) { return seq.Delete(great, 4096) }, 4095, 0},
	} {
		if got, code := x.make(); len(got) != x.many || code != x.code {
			t.Errorf("%d: %d items, %d", i, len(got), code)
		}
	}
}

// P4.1, P4.2: calls that have no code answer of any list of right values.
func TestNoCode(t *testing.T) {
	l := append(ints(5000), nest(40), val.I(-1))
	if v, code := seq.Get(l, 5001); code != api.ENone || val.Deep(v) != 40 {
		t.Error(code)
	}
	if got := seq.Sort(l); len(got) != 5002 || got[0].N != -1 || val.Deep(got[5001]) != 40 {
		t.Error(len(got))
	}
	if got := seq.Turn(l); len(got) != 5002 || got[0].N != -1 || val.Deep(got[1]) != 40 {
		t.Error(len(got))
	}
	if len(seq.Without(l, val.I(-1))) != 5001 || len(seq.Without(l, val.I(7))) != 5002 || seq.Find(l, val.I(-1)) != 5002 {
		t.Error("Without, Find")
	}
	n := int64(0)
	for i := range seq.Each(l) {
		n = i
	}
	if n != 5002 {
		t.Error(n)
	}
}

// room is a list of three with memory behind it; the last two of the three are the same memory.
func room() []api.Value {
	inner := list(append(make([]api.Value, 0, 4), val.I(5)))
	return []api.Value{val.S("b"), list([]api.Value{inner}), list([]api.Value{inner}), val.S("behind"), val.S("it")}
}

// answers is what each call that hands lists out makes of l and v: each answer has l's two lists, or v, in it somewhere.
func answers(l []api.Value, v api.Value) map[string][]api.Value {
	all := map[string][]api.Value{"Sort": seq.Sort(l), "Turn": seq.Turn(l), "Without": seq.Without(l, val.I(7)), "Without one": seq.Without(l, val.S("b"))}
	got, code := seq.Get(l, 2)
	all["Get"] = got.L
	codes := []int{code}
	keep := func(name string, l []api.Value, code int) {
		all[name] = l
		codes = append(codes, code)
	}
	add := func(name string) func([]api.Value, int) {
		return func(l []api.Value, code int) { keep(name, l, code) }
	}
	add("Cut")(seq.Cut(l, 2, 3))
	add("Cut all")(seq.Cut(l, 1, 3))
	add("Put")(seq.Put(l, 1, v))
	add("Insert ahead")(seq.Insert(l, v, 0))
	add("Insert behind")(seq.Insert(l, v, 4))
	add("Delete")(seq.Delete(l, 1))
	add("Delete the last")(seq.Delete(l, 3))
	add("With")(seq.With(l, v))
	add("With what is there")(seq.With(l, l[1]))
	add("Cat")(seq.Cat(l, l))
	add("Cat none")(seq.Cat(l, nil))
	add("Cat to none")(seq.Cat(nil, l))
	for _, v := range seq.Each(l) {
		keep("Each", v.L, api.ENone)
	}
	for _, code := range codes {
		if code != api.ENone {
			panic(code)
		}
	}
	return all
}

// spoil writes into each list within l, ahead of it its items, and into what room stands behind it.
func spoil(l []api.Value) {
	for i := range l {
		spoil(l[i].L)
		l[i] = val.I(-77)
	}
	for behind := l[len(l):cap(l)]; len(behind) > 0; behind = behind[1:] {
		behind[:1][0] = val.I(-78)
	}
}

// P0.4: no call changes what it is handed, or what lies behind it; nor does who writes into an answer.
func TestHandedInStays(t *testing.T) {
	l, v := room(), list([]api.Value{list([]api.Value{val.I(6)})})
	for name, got := range answers(l[:3], v) {
		if len(got) == 0 {
			t.Error(name)
		}
		spoil(got)
		if !reflect.DeepEqual(l, room()) || text(v.L) != "{{6}}" {
			t.Fatalf("%s: %s, %s", name, text(l), lit.Text(v))
		}
	}
	if seq.Find(l[:3], l[2]) != 2 || !reflect.DeepEqual(l, room()) {
		t.Error("Find")
	}
}

// P0.4: no answer keeps what was handed in: what becomes of that later shows in none.
func TestNothingKept(t *testing.T) {
	l, v := room(), list([]api.Value{list([]api.Value{val.I(6)})})
	want := answers(room()[:3], list([]api.Value{list([]api.Value{val.I(6)})}))
	got := answers(l[:3], v)
	spoil(l)
	spoil(v.L)
	if !reflect.DeepEqual(got, want) {
		t.Errorf("%v, not %v", got, want)
	}
}

// P0.4: no two lists that are handed out share memory, be they of one answer or of two.
func TestAnswersShareNothing(t *testing.T) {
	v := list([]api.Value{list([]api.Value{val.I(6)})})
	want := answers(room()[:3], v)
	for spoiled := range want {
		got := answers(room()[:3], v)
		spoil(got[spoiled])
		for name := range want {
			if name != spoiled && !reflect.DeepEqual(got[name], want[name]) {
				t.Errorf("%s shows what was written into %s", name, spoiled)
			}
		}
	}
	for name, l := range want {
		if len(l) < 2 || l[len(l)-1].L == nil || l[len(l)-2].L == nil {
			continue
		}
		last := text(l[len(l)-1:])
		spoil(l[len(l)-2].L)
		if text(l[len(l)-1:]) != last {
			t.Errorf("%s: two items share memory", name)
		}
	}
}

// walk is what each hands out, all of it or so many.
func walk(each func(func(int64, api.Value) bool), most int) ([]int64, []api.Value) {
	var places []int64
	var l []api.Value
	for i, v := range each {
		places = append(places, i)
		l = append(l, v)
		if len(l) == most {
			break
		}
	}
	return places, l
}

// P4.2: Each goes place by place, several times, and may be left early.
func TestEach(t *testing.T) {
	each := seq.Each(of(`{"a", {2}, #3}`))
	for _, most := range []int{3, 1, 9, 2, 3} {
		places, l := walk(each, most)
		n := min(most, 3)
		if !slices.Equal(places, []int64{1, 2, 3}[:n]) || text(l) != text(of(`{"a", {2}, #3}`)[:n]) {
			t.Errorf("%d: %v, %s", most, places, text(l))
		}
	}
	for _, l := range [][]api.Value{nil, {}, make([]api.Value, 0, 2), ints(2)[:0]} {
		for i, v := range seq.Each(l) {
			t.Error(i, v)
		}
	}
}

// P4.2: one who leaves is not called again.
func TestEachLeft(t *testing.T) {
	calls := 0
	seq.Each(ints(5))(func(int64, api.Value) bool {
		calls++
		return calls < 3
	})
	if calls != 3 {
		t.Error(calls)
	}
}

// P4.2: a walk within a walk, and one beside another, go each their own way.
func TestEachWithinEach(t *testing.T) {
	each := seq.Each(of(`{1, 2, 3}`))
	sum := int64(0)
	for i, v := range each {
		for j, w := range each {
			if j > i {
				break
			}
			sum = sum*10 + v.N*w.N
		}
	}
	if sum != 124369 {
		t.Error(sum)
	}
	done := make(chan int64)
	for range 4 {
		go func() {
			n := int64(0)
			for i, v := range each {
				n += i * v.N
			}
			done <- n
		}()
	}
	for range 4 {
		if n := <-done; n != 14 {
			t.Error(n)
		}
	}
}

// P4.2, P0.4: a walk shows the list as it was when Each was called; what is written into what one walk hands out shows in no other.
func TestEachIsItsOwn(t *testing.T) {
	l := of(`{1, {{2}}, "x"}`)
	each := seq.Each(l)
	spoil(l)
	for range 3 {
		_, got := walk(each, 9)
		if text(got) != `{1, {{2}}, "x"}` {
			t.Error(text(got))
		}
		spoil(got)
	}
	l = of(`{1, 2, 3}`)
	for i, v := range seq.Each(l) {
		l[2] = val.I(9)
		if v.N != i {
			t.Error(i, v)
		}
	}
	if text(l) != "{1, 2, 9}" {
		t.Error(text(l))
	}
}

// P0.1: what would be far too great takes no more memory than a list of its items.
func TestTooMuchTakesLittle(t *testing.T) {
	whole := list(ints(api.MaxSize - 1))
	l := slices.Repeat([]api.Value{whole}, 1000)
	var before, after runtime.MemStats
	runtime.ReadMemStats(&before)
	_, first := seq.Cat(l, l)
	_, second := seq.Cut(l, 1, 1000)
	_, third := seq.With(l, whole)
	runtime.ReadMemStats(&after)
	if took := after.TotalAlloc - before.TotalAlloc; first != api.EQuota || second != api.EQuota || third != api.EQuota || took > 1<<20 {
		t.Errorf("%d, %d, %d, %d bytes", first, second, third, took)
	}
}
