package objs_test

import (
	"errors"
	"math"
	"reflect"
	"strconv"
	"strings"
	"testing"

	"inglenook/api"
	"inglenook/objs"
	"inglenook/tree"
	"inglenook/val"
)

// body is return x; on a line.
func body(line int) []api.Node {
	return []api.Node{{Op: api.Return, Line: line, L: []api.Node{{Op: api.Var, Line: line, S: "x"}}}}
}

// zoo is an animal (2) with two properties; a bird (3) below it with one more, in a cage (7); a wren (5) below that, in the bird; a cage (7); a keeper (9), far behind, who is a Player.
func zoo() []api.Object {
	return []api.Object{
		{ID: 2, Parent: -1, Owner: 9, Place: -1, Flags: api.Fert, Name: "animal", Defs: []string{"legs", "sound"},
			Slots: []api.Slot{{Name: "legs", Owner: 9, Bits: api.R | api.C, Value: val.I(4)}, {Name: "sound", Owner: 9, Bits: api.R, Value: val.L(val.S("grr"), val.L(val.I(1)))}},
			Verbs: []api.Verb{{Names: "cry c*all", Owner: 9, Bits: api.X | api.D, Text: "return x;\n", Body: body(1)}, {Names: "*", Owner: 2}}},
		{ID: 3, Parent: 2, Owner: 5, Place: 7, Name: "bird", Defs: []string{"color"},
			Slots: []api.Slot{{Name: "color", Owner: 5, Bits: api.W | api.C, Value: val.S("red")}, {Name: "legs", Owner: 5, Bits: api.R | api.C, Value: val.I(2)}, {Name: "sound", Owner: 9, Bits: api.R, Clear: true}}},
		{ID: 5, Parent: 3, Owner: 9, Place: 3, Name: "wren",
			Slots: []api.Slot{{Name: "color", Owner: 9, Bits: api.W | api.C, Clear: true}, {Name: "legs", Owner: 9, Bits: api.R | api.C, Clear: true}, {Name: "sound", Owner: 9, Bits: api.R, Clear: true}}},
		{ID: 7, Parent: -1, Owner: 9, Place: -1, Name: "cage"},
		{ID: 9, Parent: -1, Owner: 9, Place: 7, Flags: api.Player | api.Wizard, Quota: 3, Name: "keeper"},
	}
}

func load(t *testing.T, l ...api.Object) *objs.Table {
	t.Helper()
	x, err := objs.Load(l...)
	if err != nil || x == nil {
		t.Fatal("Load:", err)
	}
	return x
}

// refused asks that Load refuses l for the object at a place.
func refused(t *testing.T, what string, at int, l []api.Object) {
	t.Helper()
	x, err := objs.Load(l...)
	where, ok := err.(*api.At)
	if x != nil || !ok || where.Pos != at || where.Err != api.ErrShape || !errors.Is(err, api.ErrShape) {
		t.Errorf("%s: %v, not at %d", what, err, at)
	}
}

// change is the zoo, but for something.
type change struct {
	what string
	do   func(l []api.Object)
}

func (c change) done() []api.Object {
	l := zoo()
	c.do(l)
	return l
}

// own gives an object one property of its own, and no other slot.
func own(o *api.Object, name string) {
	o.Defs, o.Slots = []string{name}, []api.Slot{{Name: name, Owner: 9}}
}

// many gives an object so many properties of its own.
func many(o *api.Object, n int) {
	o.Defs, o.Slots = nil, nil
	for i := range n {
		name := "p" + strconv.Itoa(1000+i)
		o.Defs, o.Slots = append(o.Defs, name), append(o.Slots, api.Slot{Name: name})
	}
}

// verb gives the cage one verb that may be, but for something.
func verb(do func(v *api.Verb)) func(l []api.Object) {
	return func(l []api.Object) {
		v := api.Verb{Names: "a", Owner: 9}
		do(&v)
		l[3].Verbs = []api.Verb{v}
	}
}

func verbs(n int) []api.Verb {
	l := make([]api.Verb, n)
	for i := range l {
		l[i].Names = "a"
	}
	return l
}

// inLists is an Int in so many lists, one in the other.
func inLists(n int) api.Value {
	v := val.I(1)
	for range n {
		v = api.Value{Kind: api.List, L: []api.Value{v}}
	}
	return v
}

// allowed is what is right at its edges: Load lets it pass, and so does Put.
func allowed() []change {
	return []change{
		{"as it is", func(l []api.Object) {}},
		{"the first and the last number", func(l []api.Object) { l[3].ID, l[4].ID, l[1].Place, l[4].Place = 8, 1<<30-1, 8, 8 }},
		{"no name", func(l []api.Object) { l[2].Name = "" }},
		{"a long name", func(l []api.Object) { l[0].Name = strings.Repeat(" ~", 32) }},
		{"no owner", func(l []api.Object) { l[4].Owner = -1 }},
		{"an owner who is gone", func(l []api.Object) { l[0].Owner = 4 }},
		{"the last owner", func(l []api.Object) { l[0].Owner = 1<<30 - 1 }},
		{"all flags", func(l []api.Object) { l[0].Flags = 63 }},
		{"the most Quota", func(l []api.Object) { l[0].Quota = 1 << 30 }},
		{"in one that stands behind", func(l []api.Object) { l[0].Place = 9 }},
		{"in its own child", func(l []api.Object) { l[0].Place = 5 }},
		{"one below it stands ahead", func(l []api.Object) {
			own(&l[4], "z")
			l[3].Parent, l[3].Slots = 9, []api.Slot{{Name: "z", Clear: true}}
		}},
		{"the most Defs", func(l []api.Object) { many(&l[4], 64) }},
		{"a short name of Defs", func(l []api.Object) { own(&l[4], "_") }},
		{"a long name of Defs", func(l []api.Object) { own(&l[4], strings.Repeat("a", 31)+"9") }},
		{"a key", func(l []api.Object) { own(&l[4], "endwhile") }},
		{"nearly a Builtin", func(l []api.Object) { own(&l[4], "names") }},
		{"a name that another one has, not above it", func(l []api.Object) { own(&l[3], "sound"); own(&l[4], "sound") }},
		{"slot owners", func(l []api.Object) { l[0].Slots[0].Owner, l[0].Slots[1].Owner = -1, 1<<30-1 }},
		{"no bits", func(l []api.Object) { l[0].Slots[0].Bits, l[2].Slots[0].Bits = 0, 7 }},
		{"a great value", func(l []api.Object) {
			l[2].Slots[0].Clear, l[2].Slots[0].Value = false, val.S(strings.Repeat("a", 4095))
		}},
		{"a deep value", func(l []api.Object) { l[0].Slots[0].Value = inLists(39) }},
		{"an empty list of nothing", func(l []api.Object) { l[2].Slots[0].Value.L = []api.Value{} }},
		{"empty lists", func(l []api.Object) {
			l[3].Defs, l[3].Slots, l[3].Verbs = []string{}, []api.Slot{}, []api.Verb{{Names: "a", Body: []api.Node{}}}
		}},
		{"the most verbs", func(l []api.Object) { l[3].Verbs = verbs(64) }},
		{"long names of a verb", verb(func(v *api.Verb) {
			v.Names = strings.Repeat("a", 31) + " " + strings.Repeat("b*", 1) + strings.Repeat("b", 30)
		})},
		{"no owner of a verb", verb(func(v *api.Verb) { v.Owner, v.Bits = -1, 15 })},
		{"the last owner of a verb", verb(func(v *api.Verb) { v.Owner = 1<<30 - 1 })},
		{"a long text", verb(func(v *api.Verb) { v.Text = strings.Repeat(" ~\n\n", 1<<13) })},
		{"a text that the body isn't", verb(func(v *api.Verb) { v.Text, v.Body = "no program", body(7) })},
	}
}

// forbidden is what is not right, of the object at a place; Put refuses each too, unless it takes more than one object.
func forbidden() []struct {
	change
	at int
} {
	return []struct {
		change
		at int
	}{
		{change{"a name too long", func(l []api.Object) { l[0].Name = strings.Repeat("a", 65) }}, 0},
		{change{"a name with an end of line", func(l []api.Object) { l[1].Name = "a\n" }}, 1},
		{change{"a name with a byte 31", func(l []api.Object) { l[1].Name = "\x1f" }}, 1},
		{change{"a name with a byte 127", func(l []api.Object) { l[1].Name = "ab\x7f" }}, 1},
		{change{"a name beyond ASCII", func(l []api.Object) { l[2].Name = "é" }}, 2},
		{change{"a parent that isn't there", func(l []api.Object) { l[3].Parent = 4 }}, 3},
		{change{"a parent far off", func(l []api.Object) { l[3].Parent = math.MaxInt }}, 3},
		{change{"a parent below -1", func(l []api.Object) { l[3].Parent = -2 }}, 3},
		{change{"a place that isn't there", func(l []api.Object) { l[3].Place = 6 }}, 3},
		{change{"a place below -1", func(l []api.Object) { l[3].Place = math.MinInt }}, 3},
		{change{"its own parent", func(l []api.Object) { l[4].Parent = 9 }}, 4},
		{change{"its own place", func(l []api.Object) { l[4].Place = 9 }}, 4},
		{change{"a child as the parent", func(l []api.Object) { l[0].Parent = 5 }}, 0},
		{change{"within what is in it", func(l []api.Object) { l[3].Place = 5 }}, 1},
		{change{"an owner below -1", func(l []api.Object) { l[2].Owner = -2 }}, 2},
		{change{"an owner too great", func(l []api.Object) { l[2].Owner = 1 << 30 }}, 2},
		{change{"flags below 0", func(l []api.Object) { l[0].Flags = -1 }}, 0},
		{change{"flags too great", func(l []api.Object) { l[4].Flags = 64 }}, 4},
		{change{"Quota below 0", func(l []api.Object) { l[0].Quota = -1 }}, 0},
		{change{"Quota too great", func(l []api.Object) { l[4].Quota = 1<<30 + 1 }}, 4},
		{change{"too many Defs", func(l []api.Object) { many(&l[4], 65) }}, 4},
		{change{"an empty name of Defs", func(l []api.Object) { own(&l[4], "") }}, 4},
		{change{"a name of Defs too long", func(l []api.Object) { own(&l[4], strings.Repeat("a", 33)) }}, 4},
		{change{"a digit ahead", func(l []api.Object) { own(&l[4], "9a") }}, 4},
		{change{"a capital", func(l []api.Object) { own(&l[4], "aB") }}, 4},
		{change{"a star", func(l []api.Object) { own(&l[4], "a*") }}, 4},
		{change{"a space", func(l []api.Object) { own(&l[4], "a b") }}, 4},
		{change{"a letter beyond ASCII", func(l []api.Object) { own(&l[4], "aé") }}, 4},
		{change{"Defs that fall", func(l []api.Object) { l[0].Defs[0], l[0].Defs[1] = "sound", "legs" }}, 0},
		{change{"Defs twice", func(l []api.Object) { own(&l[4], "a"); l[4].Defs = []string{"a", "a"} }}, 4},
		{change{"Defs and slots twice", func(l []api.Object) {
			own(&l[4], "a")
			l[4].Defs, l[4].Slots = append(l[4].Defs, "a"), append(l[4].Slots, l[4].Slots[0])
		}}, 4},
		{change{"Defs that the parent has", func(l []api.Object) {
			l[1].Defs = []string{"color", "legs"}
		}}, 1},
		{change{"Defs that one above the parent has", func(l []api.Object) { l[2].Defs = []string{"sound"}; l[2].Slots[2].Clear = false }}, 2},
		{change{"no slots", func(l []api.Object) { l[2].Slots = nil }}, 2},
		{change{"the first slot lacks", func(l []api.Object) { l[2].Slots = l[2].Slots[1:] }}, 2},
		{change{"the last slot lacks", func(l []api.Object) { l[2].Slots = l[2].Slots[:2] }}, 2},
		{change{"a slot of its own lacks", func(l []api.Object) { l[1].Slots = l[1].Slots[1:] }}, 1},
		{change{"a slot too many", func(l []api.Object) { l[3].Slots = []api.Slot{{Name: "a"}} }}, 3},
		{change{"a slot twice", func(l []api.Object) { l[2].Slots = append(l[2].Slots, l[2].Slots[2]) }}, 2},
		{change{"a slot in place of another one", func(l []api.Object) { l[2].Slots[1] = l[2].Slots[0] }}, 2},
		{change{"another name of a slot", func(l []api.Object) { l[2].Slots[1].Name = "leg" }}, 2},
		{change{"slots that fall", func(l []api.Object) { l[2].Slots[0], l[2].Slots[1] = l[2].Slots[1], l[2].Slots[0] }}, 2},
		{change{"a slot's owner below -1", func(l []api.Object) { l[2].Slots[2].Owner = -2 }}, 2},
		{change{"a slot's owner too great", func(l []api.Object) { l[0].Slots[0].Owner = 1 << 30 }}, 0},
		{change{"a slot's bits below 0", func(l []api.Object) { l[0].Slots[0].Bits = -1 }}, 0},
		{change{"a slot's bits too great", func(l []api.Object) { l[2].Slots[0].Bits = 8 }}, 2},
		{change{"a value that is too great", func(l []api.Object) { l[0].Slots[1].Value = val.S(strings.Repeat("a", 4096)) }}, 0},
		{change{"a value that is too deep", func(l []api.Object) { l[0].Slots[1].Value = inLists(40) }}, 0},
		{change{"a value of no kind", func(l []api.Object) { l[0].Slots[1].Value = api.Value{Kind: -1} }}, 0},
		{change{"an Int with a text", func(l []api.Object) { l[1].Slots[1].Value.S = "x" }}, 1},
		{change{"a Clear Str", func(l []api.Object) { l[2].Slots[0].Value = val.S("") }}, 2},
		{change{"a Clear Int", func(l []api.Object) { l[2].Slots[0].Value = val.I(1) }}, 2},
		{change{"a Clear text", func(l []api.Object) { l[2].Slots[0].Value.S = "x" }}, 2},
		{change{"a Clear list", func(l []api.Object) { l[2].Slots[0].Value.L = []api.Value{{}} }}, 2},
		{change{"Clear of its own Defs", func(l []api.Object) { l[1].Slots[0].Clear, l[1].Slots[0].Value = true, api.Value{} }}, 1},
		{change{"too many verbs", func(l []api.Object) { l[3].Verbs = verbs(65) }}, 3},
		{change{"the last verb without names", func(l []api.Object) { l[3].Verbs = verbs(64); l[3].Verbs[63].Names = "" }}, 3},
		{change{"two spaces in names", verb(func(v *api.Verb) { v.Names = "a  b" })}, 3},
		{change{"names too long", verb(func(v *api.Verb) { v.Names = strings.Repeat("a", 32) + " " + strings.Repeat("b", 32) })}, 3},
		{change{"a verb's owner below -1", verb(func(v *api.Verb) { v.Owner = -2 })}, 3},
		{change{"a verb's owner too great", verb(func(v *api.Verb) { v.Owner = 1 << 30 })}, 3},
		{change{"a verb's bits below 0", verb(func(v *api.Verb) { v.Bits = -1 })}, 3},
		{change{"a verb's bits too great", verb(func(v *api.Verb) { v.Bits = 16 })}, 3},
		{change{"a text too long", verb(func(v *api.Verb) { v.Text = strings.Repeat("a", 1<<15+1) })}, 3},
		{change{"a text with a byte 9", verb(func(v *api.Verb) { v.Text = "a\tb" })}, 3},
		{change{"a text with a byte 13", verb(func(v *api.Verb) { v.Text = "a\r\n" })}, 3},
		{change{"a text with a byte 127", verb(func(v *api.Verb) { v.Text = "\x7f" })}, 3},
		{change{"a body that is none", verb(func(v *api.Verb) { v.Body = []api.Node{{Op: api.Break}} })}, 3},
		{change{"a body that is an expression", verb(func(v *api.Verb) { v.Body = []api.Node{{Op: api.Var, S: "x"}} })}, 3},
	}
}

// P12.1: what is right, at its edges, comes back from Get and All as it was handed in.
func TestLoadAllowed(t *testing.T) {
	for _, c := range allowed() {
		x, err := objs.Load(c.done()...)
		if err != nil {
			t.Errorf("%s: %v", c.what, err)
			continue
		}
		want := c.done()
		if got := x.All(); !reflect.DeepEqual(plain(got), plain(want)) {
			t.Errorf("%s: %+v, not %+v", c.what, got, want)
		}
		for _, o := range want {
			if got, is := x.Get(o.ID); !is || !x.Has(o.ID) || !reflect.DeepEqual(plain([]api.Object{got}), plain([]api.Object{o})) {
				t.Errorf("%s: %+v, not %+v", c.what, got, o)
			}
		}
		if last := want[len(want)-1].ID; x.Max() != last {
			t.Errorf("%s: Max %d, not %d", c.what, x.Max(), last)
		}
	}
}

// plain is l with nil for each empty list.
func plain(l []api.Object) []api.Object {
	out := append([]api.Object(nil), l...)
	for i := range out {
		o := &out[i]
		o.Defs, o.Slots, o.Verbs = append([]string(nil), o.Defs...), append([]api.Slot(nil), o.Slots...), append([]api.Verb(nil), o.Verbs...)
		for j := range o.Slots {
			o.Slots[j].Value = val.Clone(o.Slots[j].Value)
		}
		for j := range o.Verbs {
			o.Verbs[j].Body = tree.Clone(o.Verbs[j].Body)
		}
	}
	return out
}

// P12.1: what is not right, and where.
func TestLoadForbidden(t *testing.T) {
	for _, c := range forbidden() {
		refused(t, c.what, c.at, c.done())
	}
}

// P12.1: no Builtin is a property, whatever else is; Put refuses it too.
func TestBuiltin(t *testing.T) {
	for _, name := range []string{"name", "owner", "location", "contents", "player", "programmer", "wizard", "r", "w", "f"} {
		l := zoo()
		own(&l[4], name)
		refused(t, name, 4, l)
		x := load(t, zoo()...)
		stays(t, x, name, api.EInvArg, func() int { return x.Put(l[4]) })
	}
	for _, name := range []string{"aliases", "description", "place", "parent", "flags", "quota", "id", "x", "d", "c", "rw", "_r", "wizards", "progr", "reads", "writes", "fert"} {
		l := zoo()
		own(&l[4], name)
		load(t, l...)
	}
}

// P12.1: the numbers rise from 0 on, below 2^30; what stands ahead of a wrong one, and is right, is not told.
func TestLoadNumbers(t *testing.T) {
	for i, x := range []struct {
		ids []int
		at  int
	}{
		{[]int{-1}, 0}, {[]int{math.MinInt}, 0}, {[]int{1 << 30}, 0}, {[]int{math.MaxInt}, 0}, {[]int{0, 0}, 1}, {[]int{0, 1, 1}, 2}, {[]int{1, 0}, 1}, {[]int{5, 1, 2}, 1}, {[]int{0, 1<<30 - 1, 1 << 30}, 2}, {[]int{0, 3, -1}, 2},
	} {
		var l []api.Object
		for _, id := range x.ids {
			l = append(l, api.Object{ID: id, Parent: -1, Owner: -1, Place: -1})
		}
		refused(t, strconv.Itoa(i), x.at, l)
	}
	none := api.Object{Parent: -1, Owner: -1, Place: -1}
	twice := []api.Object{none, none, none}
	twice[0].ID, twice[0].Parent, twice[1].ID, twice[2].ID, twice[2].Parent = 1, 2, 2, 2, 1
	refused(t, "of two with a number the first one is meant", 2, twice)
	below := []api.Object{none, none}
	below[1].ID = -1
	refused(t, "-1 is none, also where one has that number", 1, below)
	if x := load(t); x.Max() != -1 || len(x.All()) != 0 || !x.Same(objs.New()) {
		t.Error("of nothing:", x.Max())
	}
}

// P12.1: ErrMany ahead of all else; the place is that of the first fault.
func TestLoadOrder(t *testing.T) {
	l := make([]api.Object, api.MaxObjects)
	for i := range l {
		l[i] = api.Object{ID: 3 * i, Parent: -1, Owner: -1, Place: -1}
	}
	if x := load(t, l...); len(x.All()) != api.MaxObjects || x.Max() != 3*511 {
		t.Error("512:", x.Max())
	}
	if x, err := objs.Load(append(l, api.Object{ID: 3 * 512, Parent: -1, Place: -1})...); x != nil || err != api.ErrMany {
		t.Error("513:", err)
	}
	if x, err := objs.Load(append(l, api.Object{ID: -5, Parent: 77})...); x != nil || err != api.ErrMany {
		t.Error("513, and one of them wrong:", err)
	}
	bad := zoo()
	bad[3].Flags, bad[1].Quota, bad[4].ID = 64, -1, 0
	refused(t, "three faults", 1, bad)
	bad = zoo()
	bad[2].Parent, bad[4].Name = 77, "\n"
	refused(t, "two faults", 2, bad)
}

// P12.1: a row that ends at what is not there ends: the fault is that of who has it. One that leads into a ring is as wrong as the ring.
func TestLoadRows(t *testing.T) {
	parents := func(up ...int) []api.Object {
		var l []api.Object
		for i, p := range up {
			l = append(l, api.Object{ID: i, Parent: p, Owner: -1, Place: -1})
		}
		return l
	}
	places := func(l []api.Object) []api.Object {
		for i := range l {
			l[i].Parent, l[i].Place = l[i].Place, l[i].Parent
		}
		return l
	}
	for i, x := range []struct {
		up []int
		at int
	}{
		{[]int{1, 2, 9}, 2}, {[]int{2, 9, 1}, 1}, {[]int{1, 0}, 0}, {[]int{-1, 2, 3, 1}, 1}, {[]int{3, -1, 2, 2}, 0}, {[]int{-1, 0, 1, 3}, 3}, {[]int{0}, 0}, {[]int{-1, 3, 0, 4, 1}, 1}, {[]int{-1, 3, 2, 4, -1}, 2},
	} {
		refused(t, "parents "+strconv.Itoa(i), x.at, parents(x.up...))
		refused(t, "places "+strconv.Itoa(i), x.at, places(parents(x.up...)))
	}
	both := parents(1, -1)
	both[1].Place = 0
	load(t, both...)
}

// P12.1, P0.1: Load ends on values and bodies that hold themselves.
func TestLoadEnds(t *testing.T) {
	l := zoo()
	self := val.L(val.I(1))
	self.L[0] = self
	l[0].Slots[1].Value = self
	refused(t, "a value", 0, l)
	l = zoo()
	l[2].Slots[0].Value = self
	refused(t, "a Clear value", 2, l)
	l = zoo()
	around := body(1)
	around[0].L[0] = around[0]
	l[0].Verbs[0].Body = around
	refused(t, "a body", 0, l)
}

// P12.1: a long row of parents, with many properties.
func TestLoadLongRow(t *testing.T) {
	const each = 4
	var l []api.Object
	var slots []api.Slot
	for i := range api.MaxObjects {
		o := api.Object{ID: i, Parent: i - 1, Owner: 0, Place: -1}
		for j := range each {
			name := "p" + strconv.Itoa(10000+i*each+j)
			o.Defs = append(o.Defs, name)
			slots = append(slots, api.Slot{Name: name})
		}
		o.Slots = append([]api.Slot(nil), slots...)
		for k := range slots {
			slots[k].Clear = true
		}
		l = append(l, o)
	}
	x := load(t, l...)
	if above := x.Above(511); len(above) != 512 || above[0] != 511 || above[511] != 0 || !x.Is(511, 0) || x.Is(510, 511) {
		t.Error("Above:", len(above))
	}
	l[511].Slots = l[511].Slots[1:]
	refused(t, "the first slot lacks in the last", 511, l)
	if x.Recycle(0) != 0 || !reflect.DeepEqual(x.Above(2), []int{2, 1}) {
		t.Error(x.Above(2))
	}
	if o, _ := x.Get(511); len(o.Slots) != 511*each {
		t.Error("slots:", len(o.Slots))
	}
}

// P12.1: what is not there.
func TestNotThere(t *testing.T) {
	x := load(t, zoo()...)
	for _, o := range []int{math.MinInt, -2, -1, 0, 1, 4, 6, 8, 10, math.MaxInt} {
		if got, is := x.Get(o); is || x.Has(o) || !reflect.DeepEqual(got, api.Object{}) {
			t.Error("Get of", o, got)
		}
		if len(x.Children(o)) > 0 || len(x.Contents(o)) > 0 || len(x.Above(o)) > 0 || x.Is(o, o) || x.Is(o, -1) || x.Is(2, o) {
			t.Error("kin of", o)
		}
	}
	if y := objs.New(); y.Max() != -1 || len(y.All()) > 0 || y.Has(0) || y.Has(-1) || len(y.Children(-1)) > 0 {
		t.Error("New")
	}
}

// spoil writes into each list of an object, and behind its end.
func spoil(o api.Object) {
	for i := range o.Defs {
		o.Defs[i] = "spoilt"
	}
	_ = append(o.Defs, "spoilt")
	for i := range o.Slots {
		spoilValue(o.Slots[i].Value)
		o.Slots[i] = api.Slot{Name: "spoilt", Owner: 77}
	}
	_ = append(o.Slots, api.Slot{Name: "spoilt"})
	for i := range o.Verbs {
		spoilNodes(o.Verbs[i].Body)
		o.Verbs[i] = api.Verb{Names: "spoilt"}
	}
	_ = append(o.Verbs, api.Verb{Names: "spoilt"})
}

func spoilValue(v api.Value) {
	for i := range v.L {
		spoilValue(v.L[i])
		v.L[i] = val.S("spoilt")
	}
	_ = append(v.L, val.S("spoilt"))
}

func spoilNodes(l []api.Node) {
	for i := range l {
		spoilNodes(l[i].L)
		l[i] = api.Node{Op: -1}
	}
	_ = append(l, api.Node{Op: -1})
}

// P12.1, P12.3, P0.4: nothing that is handed in is kept or changed, nothing that is handed out is kept or shared.
func TestMemory(t *testing.T) {
	handed, want := zoo(), zoo()
	x := load(t, handed...)
	if !reflect.DeepEqual(handed, want) {
		t.Errorf("Load changes %+v", handed)
	}
	looks := func(what string) {
		t.Helper()
		if got := x.All(); !reflect.DeepEqual(got, want) {
			t.Fatalf("%s: %+v", what, got)
		}
	}
	for _, o := range handed {
		spoil(o)
	}
	looks("handed to Load")
	for _, o := range x.All() {
		spoil(o)
	}
	looks("of All")
	for _, o := range want {
		got, _ := x.Get(o.ID)
		again, _ := x.Get(o.ID)
		spoil(got)
		if !reflect.DeepEqual(again, o) {
			t.Error("two of Get share memory:", again)
		}
	}
	looks("of Get")
	put := zoo()[0]
	if x.Put(put) != 0 || !reflect.DeepEqual(put, zoo()[0]) {
		t.Error("Put changes what it is handed:", put)
	}
	spoil(put)
	looks("handed to Put")
	c := x.Clone()
	c.Put(api.Object{ID: 7, Parent: -1, Place: -1, Name: "other"})
	c.Move(9, -1)
	c.Chparent(3, -1)
	c.Recycle(2)
	looks("done to a clone")
	for _, l := range [][]int{x.Above(5), x.Children(2), x.Contents(7)} {
		l[0] = 77
		_ = append(l[:1], 77, 77)
	}
	looks("of kin")
}
