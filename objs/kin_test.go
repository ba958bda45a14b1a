package objs_test

import (
	"fmt"
	"math"
	"reflect"
	"slices"
	"testing"

	"inglenook/api"
	"inglenook/objs"
	"inglenook/val"
)

// slots tells the slots of an object: the name, whose it is, the bits, and, if it is not Clear, the value.
func slots(x *objs.Table, o int) string {
	got, _ := x.Get(o)
	text := ""
	for i, s := range got.Slots {
		if i > 0 {
			text += ", "
		}
		text += fmt.Sprint(s.Name, " ", s.Owner, " ", s.Bits)
		if !s.Clear {
			text += fmt.Sprint(" ", s.Value.N, s.Value.S)
		}
	}
	return text
}

// asks holds what an object is against what it ought to be.
func asks(t *testing.T, x *objs.Table, o int, want string) {
	t.Helper()
	if got := slots(x, o); got != want {
		t.Errorf("slots of %d: %s, not %s", o, got, want)
	}
}

// stays asks that a call answers a code and changes nothing.
func stays(t *testing.T, x *objs.Table, what string, want int, do func() int) {
	t.Helper()
	was, max := x.All(), x.Max()
	if code := do(); code != want {
		t.Errorf("%s: %d, not %d", what, code, want)
	}
	if !reflect.DeepEqual(x.All(), was) || x.Max() != max {
		t.Errorf("%s changes something", what)
	}
}

// P12.2: Create of nothing, of one, with an owner and without one.
func TestCreate(t *testing.T) {
	x := objs.New()
	if o, code := x.Create(-1, -1); o != 0 || code != api.ENone {
		t.Error("the first one:", o, code)
	}
	if o, is := x.Get(0); !is || !reflect.DeepEqual(o, api.Object{ID: 0, Parent: -1, Owner: 0, Place: -1}) {
		t.Error("the first one:", o)
	}
	x = load(t, zoo()...)
	if o, code := x.Create(5, 3); o != 10 || code != api.ENone || x.Max() != 10 {
		t.Error("of the wren:", o, code)
	}
	asks(t, x, 10, "color 3 6, legs 3 5, sound 9 1")
	got, _ := x.Get(10)
	got.Slots = nil
	if !reflect.DeepEqual(got, api.Object{ID: 10, Parent: 5, Owner: 3, Place: -1}) {
		t.Error("of the wren:", got)
	}
	x.Create(2, -1)
	asks(t, x, 11, "legs 11 5, sound 9 1")
	if got, _ := x.Get(11); got.Owner != 11 {
		t.Error("its own owner:", got.Owner)
	}
	x.Create(-1, 4)
	if got, _ := x.Get(12); got.Owner != 4 || len(got.Slots) > 0 {
		t.Error("an owner who is gone:", got)
	}
	if got := load(t, x.All()...); !got.Same(x) {
		t.Error("what was made is not right")
	}
}

// P12.2: what Create refuses, in its order; and what no error has used up.
func TestCreateRefused(t *testing.T) {
	x := load(t, zoo()...)
	for _, parent := range []int{math.MinInt, -2, 0, 10, math.MaxInt} {
		stays(t, x, "no such parent", api.EInvArg, func() int {
			o, code := x.Create(parent, 9)
			if o != 0 {
				t.Error("beside a code:", o)
			}
			return code
		})
	}
	for len(x.All()) < api.MaxObjects {
		x.Create(7, 9)
	}
	if x.Max() != 9+507 {
		t.Error("Max of 512:", x.Max())
	}
	stays(t, x, "too many", api.EQuota, func() int { _, code := x.Create(-1, -1); return code })
	stays(t, x, "too many, and no such parent", api.EInvArg, func() int { _, code := x.Create(4, -1); return code })
	x.Recycle(9 + 507)
	if o, code := x.Create(2, 9); o != 9+508 || code != api.ENone {
		t.Error("behind one that is gone:", o, code)
	}
}

// P12.2: the numbers end, also where the last one is gone.
func TestCreateLastNumber(t *testing.T) {
	l := zoo()
	l[4].ID = 1<<30 - 2
	x := load(t, l...)
	if o, code := x.Create(-1, -1); o != 1<<30-1 || code != api.ENone {
		t.Error("the last number:", o, code)
	}
	for range 2 {
		stays(t, x, "no number", api.EQuota, func() int {
			o, code := x.Create(-1, -1)
			if o != 0 {
				t.Error("beside a code:", o)
			}
			return code
		})
		stays(t, x, "no number, and no such parent", api.EInvArg, func() int { _, code := x.Create(4, -1); return code })
		x.Recycle(1<<30 - 1)
	}
}

// P12.2, Words: no number is given again, for a clone neither.
func TestNumbersAreNotGivenAgain(t *testing.T) {
	x := objs.New()
	for want := range 5 {
		if o, code := x.Create(-1, -1); o != want || code != api.ENone {
			t.Error(o, code)
		}
		if x.Recycle(want) != api.ENone || x.Max() != want || x.Has(want) || len(x.All()) != 0 {
			t.Error("Max is", x.Max())
		}
	}
	c := x.Clone()
	if o, _ := c.Create(-1, -1); o != 5 || x.Max() != 4 {
		t.Error("of a clone:", o, x.Max())
	}
	if o, _ := x.Create(-1, -1); o != 5 {
		t.Error("behind a clone:", o)
	}
}

// P12.2: Recycle gives the children its parent, takes its own properties away from all below, and leaves what it holds nowhere.
func TestRecycle(t *testing.T) {
	x := load(t, zoo()...)
	for _, o := range []int{math.MinInt, -1, 0, 4, 10} {
		stays(t, x, "none there", api.EInvArg, func() int { return x.Recycle(o) })
	}
	if x.Recycle(3) != api.ENone || x.Has(3) {
		t.Error("the bird stays")
	}
	asks(t, x, 5, "legs 9 5, sound 9 1")
	wren, _ := x.Get(5)
	if wren.Parent != 2 || wren.Place != -1 || wren.Owner != 9 || fmt.Sprint(x.Children(2), x.Contents(7)) != "[5] [9]" {
		t.Error("the wren:", wren)
	}
	stays(t, x, "twice", api.EInvArg, func() int { return x.Recycle(3) })
	if x.Recycle(7) != api.ENone || x.Recycle(2) != api.ENone {
		t.Error("the cage, the animal")
	}
	asks(t, x, 5, "")
	wren, _ = x.Get(5)
	keeper, _ := x.Get(9)
	if wren.Parent != -1 || keeper.Place != -1 || x.Max() != 9 {
		t.Error(wren, keeper)
	}
	if x.Recycle(9) != api.ENone || x.Max() != 9 {
		t.Error("Max:", x.Max())
	}
	if wren, _ = x.Get(5); wren.Owner != 9 {
		t.Error("an owner who is gone:", wren.Owner)
	}
	load(t, x.All()...)
}

// P12.2: what a child has of those that stay above is left as it is: its value, its owner, its bits.
func TestRecycleKeeps(t *testing.T) {
	l := zoo()
	l[2].Slots[1] = api.Slot{Name: "legs", Owner: 4, Bits: api.W, Value: val.I(6)}
	x := load(t, l...)
	x.Recycle(3)
	asks(t, x, 5, "legs 4 2 6, sound 9 1")
}

// P12.2: Chparent takes away what is no more above, keeps what is, and gives what is new, to all below too.
func TestChparent(t *testing.T) {
	x := load(t, zoo()...)
	x.Create(5, 5)
	asks(t, x, 10, "color 5 6, legs 5 5, sound 9 1")
	if x.Chparent(3, -1) != api.ENone {
		t.Error("to none")
	}
	asks(t, x, 3, "color 5 6 0red")
	asks(t, x, 5, "color 9 6")
	asks(t, x, 10, "color 5 6")
	if x.Chparent(5, 2) != api.ENone {
		t.Error("to the animal")
	}
	asks(t, x, 3, "color 5 6 0red")
	asks(t, x, 5, "legs 9 5, sound 9 1")
	asks(t, x, 10, "legs 5 5, sound 9 1")
	if x.Chparent(3, 10) != api.ENone || fmt.Sprint(x.Above(3)) != "[3 10 5 2]" {
		t.Error(x.Above(3))
	}
	asks(t, x, 3, "color 5 6 0red, legs 5 5, sound 9 1")
	was, _ := x.Get(3)
	if x.Chparent(3, 10) != api.ENone {
		t.Error("to the same one")
	}
	if now, _ := x.Get(3); !reflect.DeepEqual(now, was) {
		t.Error("to the same one:", now)
	}
	if got := load(t, x.All()...); !got.Same(x) {
		t.Error("what became is not right")
	}
}

// P12.2: a property is the same one just where the same object has it: one of the same name is a new one.
func TestChparentSameName(t *testing.T) {
	l := zoo()
	own(&l[3], "legs")
	l[3].Slots[0] = api.Slot{Name: "legs", Owner: 7, Bits: api.W, Value: val.I(8)}
	l[2].Slots[1] = api.Slot{Name: "legs", Owner: 4, Bits: api.W, Value: val.I(6)}
	x := load(t, l...)
	if x.Chparent(5, 2) != api.ENone {
		t.Error("to the animal")
	}
	asks(t, x, 5, "legs 4 2 6, sound 9 1")
	if x.Chparent(5, 7) != api.ENone {
		t.Error("to the cage")
	}
	asks(t, x, 5, "legs 7 2")
	if x.Chparent(3, 7) != api.ENone {
		t.Error("the bird to the cage")
	}
	asks(t, x, 3, "color 5 6 0red, legs 7 2")
	if x.Chparent(5, 3) != api.ENone || x.Chparent(3, 2) != api.ENone {
		t.Error("back")
	}
	asks(t, x, 3, "color 5 6 0red, legs 5 5, sound 9 1")
	asks(t, x, 5, "color 9 6, legs 9 5, sound 9 1")
}

// P12.2: a new slot's owner and bits are those that the parent has there, not those of who began the property.
func TestInheritedFromTheParent(t *testing.T) {
	l := zoo()
	l[1].Slots[1].Bits, l[1].Slots[1].Owner = api.W, 7
	l[1].Slots[2].Bits, l[1].Slots[2].Owner = api.C|api.R, 4
	x := load(t, l...)
	x.Create(3, 9)
	asks(t, x, 10, "color 9 6, legs 7 2, sound 9 5")
	if x.Chparent(7, 3) != api.ENone {
		t.Error("the cage below the bird")
	}
	asks(t, x, 7, "color 9 6, legs 7 2, sound 9 5")
}

// P12.2: what Chparent refuses, in its order.
func TestChparentRefused(t *testing.T) {
	l := zoo()
	own(&l[3], "color")
	own(&l[4], "sound")
	x := load(t, l...)
	for i, c := range []struct{ o, parent, want int }{
		{4, 2, api.EInvArg}, {-1, 2, api.EInvArg}, {-1, -1, api.EInvArg}, {2, 4, api.EInvArg}, {2, -2, api.EInvArg}, {2, math.MaxInt, api.EInvArg}, {4, 4, api.EInvArg},
		{2, 2, api.ERecMv}, {2, 3, api.ERecMv}, {2, 5, api.ERecMv}, {7, 7, api.ERecMv},
		{7, 3, api.EInvArg}, {7, 5, api.EInvArg}, {3, 7, api.EInvArg}, {2, 7, api.EInvArg}, {2, 9, api.EInvArg}, {9, 2, api.EInvArg}, {9, 5, api.EInvArg},
	} {
		stays(t, x, fmt.Sprint(i), c.want, func() int { return x.Chparent(c.o, c.parent) })
	}
	for i, c := range []struct{ o, parent, want int }{{7, 2, 0}, {9, 7, api.EInvArg}, {5, 7, 0}, {7, -1, 0}, {9, 7, 0}, {7, 2, api.EInvArg}, {5, 9, 0}, {7, 5, api.ERecMv}, {9, -1, 0}, {7, 5, 0}, {7, 3, api.EInvArg}, {7, 2, 0}} {
		if code := x.Chparent(c.o, c.parent); code != c.want {
			t.Error(i, code)
		}
	}
}

// P12.2: Move, and what it refuses, in its order. Parents don't matter.
func TestMove(t *testing.T) {
	x := load(t, zoo()...)
	for i, c := range []struct{ o, to, want int }{
		{4, 7, api.EInvArg}, {-1, -1, api.EInvArg}, {2, 4, api.EInvArg}, {2, -2, api.EInvArg}, {2, math.MinInt, api.EInvArg}, {4, 4, api.EInvArg},
		{7, 7, api.ERecMv}, {7, 3, api.ERecMv}, {7, 5, api.ERecMv}, {3, 5, api.ERecMv},
	} {
		stays(t, x, fmt.Sprint(i), c.want, func() int { return x.Move(c.o, c.to) })
	}
	for i, c := range []struct {
		o, to, want int
		kin         string
	}{
		{2, 5, 0, "[3 9] [5] [2] []"}, {3, -1, 0, "[9] [5] [2] []"}, {7, 2, 0, "[9] [5] [2] []"}, {9, 7, 0, "[9] [5] [2] []"},
		{5, 9, api.ERecMv, "[9] [5] [2] []"}, {5, -1, 0, "[9] [] [2] []"}, {5, 9, api.ERecMv, "[9] [] [2] []"}, {2, -1, 0, "[9] [] [] []"},
		{5, 9, 0, "[9] [] [] [5]"}, {3, 7, 0, "[3 9] [] [] [5]"}, {3, 7, 0, "[3 9] [] [] [5]"},
	} {
		if code := x.Move(c.o, c.to); code != c.want || fmt.Sprint(x.Contents(7), x.Contents(3), x.Contents(5), x.Contents(9)) != c.kin {
			t.Error(i, code, x.Contents(7), x.Contents(3), x.Contents(5), x.Contents(9))
		}
	}
	if got, _ := x.Get(3); got.Place != 7 || got.Parent != 2 {
		t.Error("the bird:", got)
	}
	load(t, x.All()...)
}

// P12.3: kin, by number and by row.
func TestKin(t *testing.T) {
	x := load(t, zoo()...)
	for range 40 {
		x.Create(2, 9)
	}
	want := []int{3}
	for o := 10; o < 50; o++ {
		want = append(want, o)
	}
	if got := x.Children(2); !reflect.DeepEqual(got, want) {
		t.Error("Children:", got)
	}
	for _, o := range slices.Backward(want) {
		x.Move(o, 9)
	}
	if got := x.Contents(9); !reflect.DeepEqual(got, want) {
		t.Error("Contents:", got)
	}
	if fmt.Sprint(x.Above(5), x.Above(3), x.Above(2), x.Above(7)) != "[5 3 2] [3 2] [2] [7]" {
		t.Error("Above:", x.Above(5), x.Above(3), x.Above(2), x.Above(7))
	}
	for _, c := range []struct {
		o, parent int
		want      bool
	}{{5, 5, true}, {5, 3, true}, {5, 2, true}, {5, 7, false}, {5, -1, false}, {3, 5, false}, {2, 3, false}, {2, 2, true}, {-1, -1, false}, {4, 4, false}, {4, 2, false}, {2, 4, false}} {
		if x.Is(c.o, c.parent) != c.want {
			t.Error("Is", c)
		}
	}
}
