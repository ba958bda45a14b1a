package num_test

import (
	"math"
	"math/big"
	"reflect"
	"strings"
	"testing"

	"inglenook/api"
	"inglenook/lit"
	"inglenook/num"
	"inglenook/val"
)

// of is the value that s says.
func of(s string) api.Value {
	v, err := lit.Read(s)
	if err != nil {
		panic(s)
	}
	return v
}

// all is the values that the texts say.
func all(texts ...string) []api.Value {
	var out []api.Value
	for _, s := range texts {
		out = append(out, of(s))
	}
	return out
}

// some is values of each kind, no two of them the same.
func some() []api.Value {
	return all(`0`, `1`, `2`, `-1`, `#0`, `#1`, `#-1`, `""`, `"a"`, `"1"`, `"ab"`, `E_NONE`, `E_TYPE`, `{}`, `{1}`, `{"a"}`, `{{}}`, `{1, 2}`)
}

// but is those of some that are of other kinds.
func but(kinds ...int) []api.Value {
	var out []api.Value
	for _, v := range some() {
		other := true
		for _, k := range kinds {
			other = other && v.Kind != k
		}
		if other {
			out = append(out, v)
		}
	}
	return out
}

// edges is Ints at which something changes.
func edges() []int64 {
	return []int64{math.MinInt64, math.MinInt64 + 1, -1<<62 - 1, -1 << 62, -1 << 32, -3037000500, -1 << 31, -1000, -8, -7, -3, -2, -1, 0, 1, 2, 3, 7, 8, 1000, 1<<31 - 1, 1 << 31, 3037000500, 1 << 32, 1 << 62, 1<<62 + 1, math.MaxInt64 - 1, math.MaxInt64}
}

// out is places that neither a text nor a list of three has.
func out() []int64 {
	return []int64{math.MinInt64, math.MinInt64 + 1, -1 << 32, 1 - 1<<32, 2 - 1<<32, -3, -2, -1, 0, 4, 5, 1 << 32, 1<<32 + 1, 1<<32 + 2, math.MaxInt64 - 1, math.MaxInt64}
}

// nest is so many lists, one in the other.
func nest(n int) api.Value {
	v := val.L()
	for range n - 1 {
		v = val.L(v)
	}
	return v
}

// long is a text of so many bytes.
func long(n int) string { return strings.Repeat("a", n) }

// is asks for the value that want says, right and with no field beside.
func is(t *testing.T, what string, v api.Value, code int, want string) {
	t.Helper()
	if code != api.ENone || lit.Text(v) != want {
		t.Errorf("%s: %s (%v), %d, not %s", what, lit.Text(v), v, code, want)
	}
}

// fails asks for a code, and nothing beside.
func fails(t *testing.T, what string, v api.Value, code, want int) {
	t.Helper()
	if code != want || !reflect.DeepEqual(v, api.Value{}) {
		t.Errorf("%s: %v, %d, not %d", what, v, code, want)
	}
}

// said tells of which operation on which values it is.
func said(op string, l ...api.Value) string {
	for _, v := range l {
		op += " " + lit.Text(v)
	}
	return op
}

// round is n, gone round 2^64 to an Int.
func round(n *big.Int) int64 {
	return int64(new(big.Int).And(n, new(big.Int).SetUint64(math.MaxUint64)).Uint64())
}

// P5.1: Add to Mod of two Ints, held against numbers without bounds.
func TestTwoInts(t *testing.T) {
	for _, x := range edges() {
		for _, y := range edges() {
			a, b := big.NewInt(x), big.NewInt(y)
			for op, want := range map[int]*big.Int{api.Add: new(big.Int).Add(a, b), api.Sub: new(big.Int).Sub(a, b), api.Mul: new(big.Int).Mul(a, b)} {
				v, code := num.Two(op, val.I(x), val.I(y))
				is(t, said("two Ints", val.I(int64(op)), val.I(x), val.I(y)), v, code, lit.Text(val.I(round(want))))
			}
			div, code1 := num.Two(api.Div, val.I(x), val.I(y))
			mod, code2 := num.Two(api.Mod, val.I(x), val.I(y))
			if y == 0 {
				fails(t, said("Div", val.I(x), val.I(y)), div, code1, api.EDiv)
				fails(t, said("Mod", val.I(x), val.I(y)), mod, code2, api.EDiv)
				continue
			}
			q, r := new(big.Int).QuoRem(a, b, new(big.Int))
			is(t, said("Div", val.I(x), val.I(y)), div, code1, lit.Text(val.I(round(q))))
			is(t, said("Mod", val.I(x), val.I(y)), mod, code2, lit.Text(val.I(round(r))))
		}
	}
}

// P5.1: two Ints, what the chapter names written out.
func TestTwoIntsByHand(t *testing.T) {
	for _, x := range []struct {
		op         int
		a, b, want string
	}{
		{api.Add, `2`, `3`, `5`}, {api.Sub, `2`, `3`, `-1`}, {api.Mul, `2`, `-3`, `-6`},
		{api.Div, `-7`, `2`, `-3`}, {api.Div, `7`, `-2`, `-3`}, {api.Div, `-7`, `-2`, `3`}, {api.Div, `7`, `2`, `3`}, {api.Div, `0`, `5`, `0`},
		{api.Mod, `-7`, `2`, `-1`}, {api.Mod, `7`, `-2`, `1`}, {api.Mod, `-7`, `-2`, `-1`}, {api.Mod, `7`, `2`, `1`}, {api.Mod, `-8`, `2`, `0`},
		{api.Add, `9223372036854775807`, `1`, `-9223372036854775808`}, {api.Sub, `-9223372036854775808`, `1`, `9223372036854775807`}, {api.Sub, `0`, `-9223372036854775808`, `-9223372036854775808`}, {api.Mul, `-9223372036854775808`, `-1`, `-9223372036854775808`}, {api.Mul, `4294967296`, `4294967296`, `0`},
		{api.Div, `-9223372036854775808`, `-1`, `-9223372036854775808`}, {api.Mod, `-9223372036854775808`, `-1`, `0`},
	} {
		v, code := num.Two(x.op, of(x.a), of(x.b))
		is(t, said("two Ints", val.I(int64(x.op)), of(x.a), of(x.b)), v, code, x.want)
	}
}

// P5.1: Add of two Strs, and up to which size.
func TestTwoStrs(t *testing.T) {
	for _, x := range []struct{ a, b, want string }{
		{`"a"`, `"b"`, `"ab"`}, {`"ab"`, `" c"`, `"ab c"`}, {`""`, `"a"`, `"a"`}, {`"a"`, `""`, `"a"`}, {`""`, `""`, `""`}, {`"1"`, `"2"`, `"12"`}, {`"\""`, `"\\"`, `"\"\\"`},
	} {
		v, code := num.Two(api.Add, of(x.a), of(x.b))
		is(t, said("Add", of(x.a), of(x.b)), v, code, x.want)
	}
	most := api.MaxSize - 1
	for _, n := range []int{0, 1, 2, 2047, 2048, most - 1, most} {
		v, code := num.Two(api.Add, val.S(long(n)), val.S(long(most-n)))
		is(t, "Add up to the greatest", v, code, `"`+long(most)+`"`)
		if n > 0 {
			v, code = num.Two(api.Add, val.S(long(n)), val.S(long(most-n+1)))
			fails(t, "Add of one byte too many", v, code, api.EQuota)
		}
	}
	v, code := num.Two(api.Add, val.S(long(most)), val.S(long(most)))
	fails(t, "Add of two greatest", v, code, api.EQuota)
}

// P5.1: Eq and Ne of any two: two values are the same if their texts are.
func TestEqNe(t *testing.T) {
	for _, a := range some() {
		for _, b := range some() {
			eq, ne := "0", "1"
			if lit.Text(a) == lit.Text(b) {
				eq, ne = "1", "0"
			}
			v, code := num.Two(api.Eq, a, b)
			is(t, said("Eq", a, b), v, code, eq)
			v, code = num.Two(api.Ne, a, b)
			is(t, said("Ne", a, b), v, code, ne)
		}
	}
	v, code := num.Two(api.Eq, api.Value{Kind: api.List, L: []api.Value{}}, val.L())
	is(t, "Eq of an empty list and nil", v, code, "1")
	v, code = num.Two(api.Eq, of(`{1, {"a", #2}}`), of(`{1, {"a", #2}}`))
	is(t, "Eq of lists in lists", v, code, "1")
}

// P5.1: Lt to Ge of two of one kind, in order.
func TestOrder(t *testing.T) {
	for _, l := range [][]api.Value{
		all(`-9223372036854775808`, `-2`, `-1`, `0`, `1`, `2`, `10`, `9223372036854775807`),
		all(`#-2147483648`, `#-2`, `#-1`, `#0`, `#1`, `#10`, `#2147483647`),
		all(`""`, `" "`, `"10"`, `"2"`, `"A"`, `"B"`, `"a"`, `"aa"`, `"ab"`, `"b"`, `"~"`),
		all(`E_NONE`, `E_TYPE`, `E_DIV`, `E_RANGE`, `E_ARGS`, `E_QUOTA`),
	} {
		for i, a := range l {
			for j, b := range l {
				for op, want := range map[int]bool{api.Lt: i < j, api.Le: i <= j, api.Gt: i > j, api.Ge: i >= j} {
					v, code := num.Two(op, a, b)
					is(t, said("in order", val.I(int64(op)), a, b), v, code, lit.Text(num.Bool(want)))
				}
			}
		}
	}
}

// P5.1: In gives the place of the first that is the same; 0: none.
func TestIn(t *testing.T) {
	for _, x := range []struct{ a, b, want string }{
		{`2`, `{1, 2, 2}`, `2`}, {`1`, `{1}`, `1`}, {`3`, `{1, 2}`, `0`}, {`1`, `{}`, `0`}, {`{}`, `{}`, `0`}, {`{}`, `{1, {}}`, `2`},
		{`1`, `{#1, E_TYPE, "1", {1}, 1}`, `5`}, {`#1`, `{1}`, `0`}, {`E_DIV`, `{E_TYPE, E_DIV}`, `2`}, {`"a"`, `{"A", "ab", "a"}`, `3`}, {`{1, {2}}`, `{{1}, {1, {2}}}`, `2`}, {`2`, `{{2}}`, `0`},
	} {
		v, code := num.Two(api.In, of(x.a), of(x.b))
		is(t, said("In", of(x.a), of(x.b)), v, code, x.want)
	}
	for _, b := range but(api.List) {
		for _, a := range some() {
			v, code := num.Two(api.In, a, b)
			fails(t, said("In", a, b), v, code, api.EType)
		}
	}
}

// P5.1, P0.3: Add to Mod, and Lt to Ge, of kinds that they are not for: EType, ahead of EDiv and EQuota.
func TestTwoOfOtherKinds(t *testing.T) {
	values := append(some(), val.S(long(api.MaxSize-1)))
	for _, a := range values {
		for _, b := range values {
			for _, op := range []int{api.Add, api.Sub, api.Mul, api.Div, api.Mod} {
				if a.Kind == b.Kind && (a.Kind == api.Int || a.Kind == api.Str && op == api.Add) {
					continue
				}
				v, code := num.Two(op, a, b)
				fails(t, said("two", val.I(int64(op)), a, b), v, code, api.EType)
			}
			if a.Kind == b.Kind && a.Kind != api.List {
				continue
			}
			for op := api.Lt; op <= api.Ge; op++ {
				v, code := num.Two(op, a, b)
				fails(t, said("two", val.I(int64(op)), a, b), v, code, api.EType)
			}
		}
	}
}

// P5.1: other operations: EInvArg, whatever they are asked of.
func TestOtherOps(t *testing.T) {
	ops := []int{math.MinInt, math.MaxInt, 5 - 1<<32, 5 + 1<<32, 3 + 1<<32, 4 + 1<<32}
	for op := -20; op <= 80; op++ {
		ops = append(ops, op)
	}
	for _, op := range ops {
		for _, a := range some() {
			if op < api.Add || op > api.In {
				for _, b := range some() {
					v, code := num.Two(op, a, b)
					fails(t, said("Two", val.I(int64(op)), a, b), v, code, api.EInvArg)
				}
			}
			if op != api.Neg && op != api.Not {
				v, code := num.One(op, a)
				fails(t, said("One", val.I(int64(op)), a), v, code, api.EInvArg)
			}
		}
	}
}

// P5.1: Neg of an Int, and of no other.
func TestNeg(t *testing.T) {
	for _, n := range edges() {
		v, code := num.One(api.Neg, val.I(n))
		is(t, said("Neg", val.I(n)), v, code, lit.Text(val.I(round(new(big.Int).Neg(big.NewInt(n))))))
	}
	v, code := num.One(api.Neg, val.I(5))
	is(t, "Neg of 5", v, code, "-5")
	v, code = num.One(api.Neg, val.I(math.MinInt64))
	is(t, "Neg of the least", v, code, "-9223372036854775808")
	for _, a := range but(api.Int) {
		v, code := num.One(api.Neg, a)
		fails(t, said("Neg", a), v, code, api.EType)
	}
}

// P5.1: Not of any.
func TestNot(t *testing.T) {
	for s, want := range map[string]string{
		`0`: `1`, `1`: `0`, `-1`: `0`, `256`: `0`, `4294967296`: `0`, `-9223372036854775808`: `0`,
		`""`: `1`, `"0"`: `0`, `" "`: `0`, `{}`: `1`, `{0}`: `0`, `{{}}`: `0`,
		`#0`: `1`, `#1`: `1`, `#-1`: `1`, `E_NONE`: `1`, `E_TYPE`: `1`,
	} {
		v, code := num.One(api.Not, of(s))
		is(t, "Not "+s, v, code, want)
	}
	v, code := num.One(api.Not, api.Value{Kind: api.List, L: []api.Value{}})
	is(t, "Not of an empty list", v, code, "1")
}

// P5.1: Bool.
func TestBool(t *testing.T) {
	if yes := num.Bool(true); !reflect.DeepEqual(yes, api.Value{Kind: api.Int, N: 1}) {
		t.Error(yes)
	}
	if no := num.Bool(false); !reflect.DeepEqual(no, api.Value{Kind: api.Int}) {
		t.Error(no)
	}
}

// P5.2: Index and Put at each place of a text and of a list.
func TestPlaces(t *testing.T) {
	for _, x := range []struct{ a, i, item, v, put string }{
		{`"abc"`, `1`, `"a"`, `"x"`, `"xbc"`}, {`"abc"`, `2`, `"b"`, `"x"`, `"axc"`}, {`"abc"`, `3`, `"c"`, `"x"`, `"abx"`}, {`"a"`, `1`, `"a"`, `" "`, `" "`}, {`"a\"b"`, `2`, `"\""`, `"\\"`, `"a\\b"`}, {`"aa"`, `2`, `"a"`, `"a"`, `"aa"`},
		{`{1, {2}, "xy"}`, `1`, `1`, `E_PERM`, `{E_PERM, {2}, "xy"}`}, {`{1, {2}, "xy"}`, `2`, `{2}`, `{}`, `{1, {}, "xy"}`}, {`{1, {2}, "xy"}`, `3`, `"xy"`, `"long"`, `{1, {2}, "long"}`}, {`{#5}`, `1`, `#5`, `{#5}`, `{{#5}}`},
	} {
		v, code := num.Index(of(x.a), of(x.i))
		is(t, said("Index", of(x.a), of(x.i)), v, code, x.item)
		v, code = num.Put(of(x.a), of(x.i), of(x.v))
		is(t, said("Put", of(x.a), of(x.i), of(x.v)), v, code, x.put)
	}
	full := `"` + long(api.MaxSize-1) + `"`
	v, code := num.Put(of(full), val.I(api.MaxSize-1), val.S("b"))
	is(t, "Put into the longest", v, code, `"`+long(api.MaxSize-2)+`b"`)
	v, code = num.Index(of(full), val.I(api.MaxSize-1))
	is(t, "Index of the longest", v, code, `"a"`)
}

// P5.2, P0.3: Index and Put at places that are not there.
func TestPlacesOut(t *testing.T) {
	for _, i := range out() {
		for _, a := range all(`"abc"`, `{1, {2}, "x"}`, `""`, `{}`) {
			v, code := num.Index(a, val.I(i))
			fails(t, said("Index", a, val.I(i)), v, code, api.ERange)
			v, code = num.Put(a, val.I(i), val.S("x"))
			fails(t, said("Put", a, val.I(i)), v, code, api.ERange)
		}
		v, code := num.Put(of(`{1, 2, 3}`), val.I(i), nest(api.MaxNest))
		fails(t, said("Put of what is too deep", val.I(i)), v, code, api.ERange)
		v, code = num.Put(of(`{1, 2, 3}`), val.I(i), val.S(long(api.MaxSize-1)))
		fails(t, said("Put of what is too great", val.I(i)), v, code, api.ERange)
	}
	for _, a := range all(`""`, `{}`) {
		v, code := num.Index(a, val.I(1))
		fails(t, said("Index", a), v, code, api.ERange)
		v, code = num.Put(a, val.I(1), val.S("x"))
		fails(t, said("Put", a), v, code, api.ERange)
	}
	v, code := num.Index(api.Value{Kind: api.List, L: []api.Value{}}, val.I(1))
	fails(t, "Index of an empty list", v, code, api.ERange)
}

// P5.2: Slice at all places in and around short texts and lists.
func TestSlice(t *testing.T) {
	for _, x := range []struct{ a, i, j, want string }{
		{`"abc"`, `2`, `3`, `"bc"`}, {`"abc"`, `1`, `3`, `"abc"`}, {`"abc"`, `2`, `2`, `"b"`}, {`"abc"`, `3`, `2`, `""`}, {`"abc"`, `9223372036854775807`, `-9223372036854775808`, `""`}, {`""`, `1`, `0`, `""`}, {`"abc"`, `0`, `-1`, `""`},
		{`{1, {2}, "x"}`, `2`, `3`, `{{2}, "x"}`}, {`{1, {2}, "x"}`, `1`, `3`, `{1, {2}, "x"}`}, {`{1, {2}, "x"}`, `1`, `1`, `{1}`}, {`{1, {2}, "x"}`, `3`, `2`, `{}`}, {`{1}`, `9223372036854775807`, `-9223372036854775808`, `{}`}, {`{}`, `1`, `0`, `{}`},
	} {
		v, code := num.Slice(of(x.a), of(x.i), of(x.j))
		is(t, said("Slice", of(x.a), of(x.i), of(x.j)), v, code, x.want)
	}
	texts, lists := "abc", of(`{1, {2}, "x"}`)
	places := append(out(), 1, 2, 3)
	for _, i := range places {
		for _, j := range places {
			s, code1 := num.Slice(val.S(texts), val.I(i), val.I(j))
			l, code2 := num.Slice(lists, val.I(i), val.I(j))
			what := said("Slice", val.I(i), val.I(j))
			switch {
			case i > j:
				is(t, what, s, code1, `""`)
				is(t, what, l, code2, `{}`)
			case i < 1 || j > 3:
				fails(t, what, s, code1, api.ERange)
				fails(t, what, l, code2, api.ERange)
			default:
				is(t, what, s, code1, lit.Text(val.S(texts[i-1:j])))
				is(t, what, l, code2, lit.Text(val.L(lists.L[i-1:j]...)))
			}
		}
	}
	for _, a := range all(`""`, `{}`) {
		v, code := num.Slice(a, val.I(1), val.I(1))
		fails(t, said("Slice", a), v, code, api.ERange)
	}
}

// P5.2, P0.3: places that are no Ints, and what has no places: EType, ahead of ERange and EInvArg.
func TestPlacesOfOtherKinds(t *testing.T) {
	for _, a := range but(api.Str, api.List) {
		for _, i := range some() {
			v, code := num.Index(a, i)
			fails(t, said("Index", a, i), v, code, api.EType)
			for _, j := range some() {
				v, code = num.Slice(a, i, j)
				fails(t, said("Slice", a, i, j), v, code, api.EType)
				v, code = num.Put(a, i, j)
				fails(t, said("Put", a, i, j), v, code, api.EType)
			}
		}
	}
	for _, a := range all(`"abc"`, `""`, `{1, 2}`, `{}`) {
		for _, i := range but(api.Int) {
			v, code := num.Index(a, i)
			fails(t, said("Index", a, i), v, code, api.EType)
			for _, j := range some() {
				v, code = num.Slice(a, i, j)
				fails(t, said("Slice", a, i, j), v, code, api.EType)
				v, code = num.Slice(a, j, i)
				fails(t, said("Slice", a, j, i), v, code, api.EType)
				v, code = num.Put(a, i, j)
				fails(t, said("Put", a, i, j), v, code, api.EType)
			}
		}
	}
}

// P5.2: into a Str goes a Str of one byte and nothing else, ahead of ERange.
func TestPutIntoStr(t *testing.T) {
	wrong := append(but(api.Str), all(`""`, `"xy"`, `"xyz"`)...)
	wrong = append(wrong, val.S(long(api.MaxSize-1)))
	for _, v := range wrong {
		for _, i := range append(out(), 1, 2, 3) {
			got, code := num.Put(val.S("abc"), val.I(i), v)
			fails(t, said("Put", val.I(i), v), got, code, api.EInvArg)
		}
		got, code := num.Put(val.S(""), val.I(1), v)
		fails(t, said("Put into the empty one", v), got, code, api.EInvArg)
	}
}

// P5.2: Put into a list up to the greatest depth and the greatest size, EMaxRec ahead of EQuota.
func TestPutTooMuch(t *testing.T) {
	two := of(`{1, 2}`)
	v, code := num.Put(two, val.I(2), nest(api.MaxNest-1))
	if code != api.ENone || val.Deep(v) != api.MaxNest || val.Valid(v) != nil {
		t.Errorf("as deep as may be: %d", code)
	}
	v, code = num.Put(two, val.I(2), nest(api.MaxNest))
	fails(t, "too deep", v, code, api.EMaxRec)
	v, code = num.Put(two, val.I(2), val.S(long(api.MaxSize-3)))
	if code != api.ENone || val.Size(v) != api.MaxSize || val.Valid(v) != nil {
		t.Errorf("as great as may be: %d", code)
	}
	v, code = num.Put(two, val.I(2), val.S(long(api.MaxSize-2)))
	fails(t, "too great", v, code, api.EQuota)
	great := val.L(val.S(long(api.MaxSize-3)), val.I(2))
	v, code = num.Put(great, val.I(2), nest(api.MaxNest))
	fails(t, "too deep and too great", v, code, api.EMaxRec)
	v, code = num.Put(great, val.I(2), of(`{1}`))
	fails(t, "too great by an item", v, code, api.EQuota)
	v, code = num.Put(great, val.I(1), great)
	fails(t, "a great one in a great one's place", v, code, api.EQuota)
}

// answers is what the calls make of a list l of two or more, and of v.
func answers(l, v api.Value) []api.Value {
	var out []api.Value
	for _, ask := range []func() (api.Value, int){
		func() (api.Value, int) { return num.Index(l, val.I(2)) },
		func() (api.Value, int) { return num.Slice(l, val.I(1), val.I(2)) },
		func() (api.Value, int) { return num.Put(l, val.I(1), v) },
		func() (api.Value, int) { return num.Put(l, val.I(2), v) },
	} {
		x, code := ask()
		if code != api.ENone {
			panic(code)
		}
		out = append(out, x)
	}
	return out
}

// room is a list of two with room behind it in which a third one stands.
func room() api.Value { return api.Value{Kind: api.List, L: of(`{1, {2, {3}}, "kept"}`).L[:2]} }

// spoil writes into a list and those in it, and behind them.
func spoil(v api.Value) {
	for i := range v.L {
		spoil(v.L[i])
		v.L[i] = val.S("spoilt")
	}
	rest := v.L[len(v.L):cap(v.L)]
	for i := range rest {
		rest[i] = val.S("spoilt")
	}
}

// P0.4: what is handed in stays as it is, behind its length too, whatever is written into the answers.
func TestHandedInStays(t *testing.T) {
	l, v := room(), of(`{7, {8}}`)
	num.Two(api.In, v, l)
	num.Two(api.Eq, l, v)
	for _, x := range answers(l, v) {
		spoil(x)
	}
	if got := lit.Text(api.Value{Kind: api.List, L: l.L[:3]}); got != `{1, {2, {3}}, "kept"}` {
		t.Error(got)
	}
	if got := lit.Text(v); got != `{7, {8}}` {
		t.Error(got)
	}
}

// P0.4: an answer stays as it is, whatever becomes of what was handed in and of the other answers.
func TestAnswersStay(t *testing.T) {
	want := []string{`{2, {3}}`, `{1, {2, {3}}}`, `{{7, {8}}, {2, {3}}}`, `{1, {7, {8}}}`}
	for i := range want {
		l, v := room(), of(`{7, {8}}`)
		got := answers(l, v)
		spoil(l)
		spoil(v)
		for j := range got {
			if j != i {
				spoil(got[j])
			}
		}
		if lit.Text(got[i]) != want[i] {
			t.Errorf("%s, not %s", lit.Text(got[i]), want[i])
		}
	}
}

// P0.4: the parts of one answer share no memory, where the same list is handed in twice.
func TestPartsShareNothing(t *testing.T) {
	v := of(`{7}`)
	l := api.Value{Kind: api.List, L: []api.Value{v, v, v}}
	for _, ask := range []func() (api.Value, int){
		func() (api.Value, int) { return num.Put(l, val.I(1), v) },
		func() (api.Value, int) { return num.Slice(l, val.I(1), val.I(3)) },
	} {
		x, code := ask()
		spoil(x.L[0])
		is(t, "parts", api.Value{Kind: api.List, L: x.L[1:]}, code, `{{7}, {7}}`)
	}
}
