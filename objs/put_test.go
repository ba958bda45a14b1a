package objs_test

import (
	"math"
	"reflect"
	"testing"

	"inglenook/api"
	"inglenook/objs"
	"inglenook/val"
)

// changed is the places at which l isn't the zoo, by number of the zoo; false, if numbers are other ones.
func changed(l []api.Object) ([]int, bool) {
	var at []int
	for i, o := range zoo() {
		if l[i].ID != o.ID {
			return nil, false
		}
		if !reflect.DeepEqual(l[i], o) {
			at = append(at, i)
		}
	}
	return at, true
}

// P12.3: what Load lets pass Put puts, if it is a change of one object.
func TestPutAllowed(t *testing.T) {
	for _, c := range allowed() {
		l := c.done()
		at, ok := changed(l)
		if !ok || len(at) != 1 {
			continue
		}
		x := load(t, zoo()...)
		if code := x.Put(l[at[0]]); code != api.ENone {
			t.Errorf("%s: %d", c.what, code)
		}
		if got := x.All(); !reflect.DeepEqual(plain(got), plain(l)) || x.Max() != 9 {
			t.Errorf("%s: %+v, not %+v", c.what, got, l)
		}
	}
}

// P12.3: what Load refuses Put refuses, and nothing is changed.
func TestPutForbidden(t *testing.T) {
	for _, c := range forbidden() {
		l := c.done()
		at, ok := changed(l)
		if !ok || len(at) != 1 {
			t.Errorf("%s changes %v", c.what, at)
			continue
		}
		x := load(t, zoo()...)
		stays(t, x, c.what, api.EInvArg, func() int { return x.Put(l[at[0]]) })
	}
}

// P12.3: no such object.
func TestPutNotThere(t *testing.T) {
	x := load(t, zoo()...)
	for _, id := range []int{math.MinInt, -1, 0, 4, 10, math.MaxInt} {
		stays(t, x, "none there", api.EInvArg, func() int { return x.Put(api.Object{ID: id, Parent: -1, Owner: -1, Place: -1}) })
	}
	x.Recycle(7)
	stays(t, x, "one that is gone", api.EInvArg, func() int { return x.Put(zoo()[3]) })
}

// P12.3: those below would be refused, where a property of theirs is no more, or comes, or has a name that they have.
func TestPutBelow(t *testing.T) {
	x := load(t, zoo()...)
	for i, do := range []func(o *api.Object){
		func(o *api.Object) { o.Defs, o.Slots = o.Defs[1:], o.Slots[1:] },
		func(o *api.Object) { o.Defs, o.Slots = o.Defs[:1], o.Slots[:1] },
		func(o *api.Object) { o.Defs, o.Slots = nil, nil },
		func(o *api.Object) {
			o.Defs, o.Slots = append(o.Defs, "z"), append(o.Slots, api.Slot{Name: "z"})
		},
		func(o *api.Object) { o.Defs[0], o.Slots[0].Name = "eggs", "eggs" },
		func(o *api.Object) {
			o.Defs, o.Slots = append([]string{"color"}, o.Defs...), append([]api.Slot{{Name: "color"}}, o.Slots...)
		},
	} {
		o := zoo()[0]
		do(&o)
		stays(t, x, string(rune('a'+i)), api.EInvArg, func() int { return x.Put(o) })
		if fresh, err := objs.Load(o); fresh == nil || err != nil {
			t.Error("alone it is right:", err)
		}
	}
	bird := zoo()[1]
	bird.Parent, bird.Slots = -1, bird.Slots[:1]
	stays(t, x, "the bird alone, with the wren below it", api.EInvArg, func() int { return x.Put(bird) })
	x.Recycle(5)
	if code := x.Put(bird); code != api.ENone || len(x.Children(2)) > 0 {
		t.Error("the bird alone, without the wren:", code)
	}
}

// P12.3: another parent that has no other properties for those below, and one that has the same names.
func TestPutParent(t *testing.T) {
	l := zoo()
	l[3].Defs, l[3].Slots = l[0].Defs, append([]api.Slot(nil), l[0].Slots...)
	x := load(t, l...)
	bird := l[1]
	bird.Parent = 7
	if code := x.Put(bird); code != api.ENone || !x.Is(5, 7) || x.Is(5, 2) {
		t.Error("the same names:", code)
	}
	cage := l[3]
	cage.Place = 9
	stays(t, x, "a place within it", api.EInvArg, func() int { return x.Put(cage) })
	cage.Place, cage.Parent, cage.Slots, cage.Defs = -1, 9, nil, nil
	stays(t, x, "those below lose it", api.EInvArg, func() int { return x.Put(cage) })
	keeper := l[4]
	keeper.Parent, keeper.Slots = 5, []api.Slot{{Name: "color", Clear: true}, {Name: "legs", Clear: true}, {Name: "sound", Clear: true}}
	if code := x.Put(keeper); code != api.ENone || !x.Is(9, 7) {
		t.Error("the keeper below the wren:", code)
	}
}

// P12.3, P0.1: Put ends on a value that holds itself.
func TestPutEnds(t *testing.T) {
	x := load(t, zoo()...)
	self := val.L(val.I(1))
	self.L[0] = self
	o := zoo()[0]
	o.Slots[0].Value = self
	stays(t, x, "a value in itself", api.EInvArg, func() int { return x.Put(o) })
}

// P12.2, P12.3: Create asks nothing of an owner; with one that Load refuses Put refuses all but the one that takes its place.
func TestPutBesideAnOddOwner(t *testing.T) {
	for _, owner := range []int{-2, math.MinInt, 1 << 30, math.MaxInt} {
		x := load(t, zoo()...)
		o, code := x.Create(2, owner)
		if got, _ := x.Get(o); o != 10 || code != api.ENone || got.Owner != owner || got.Slots[0].Owner != owner || got.Slots[1].Owner != 9 {
			t.Error("Create:", got, code)
		}
		if _, err := objs.Load(x.All()...); err == nil {
			t.Error("Load lets it pass")
		}
		for _, y := range []*objs.Table{x, x.Clone()} {
			stays(t, y, "another one", api.EInvArg, func() int { return y.Put(zoo()[3]) })
			fresh, _ := y.Get(10)
			fresh.Owner = 9
			stays(t, y, "it with its slots", api.EInvArg, func() int { return y.Put(fresh) })
			fresh.Slots[0].Owner = 9
			if y.Put(fresh) != api.ENone || y.Put(zoo()[3]) != api.ENone {
				t.Error("it, then another one")
			}
		}
	}
	x := load(t, zoo()...)
	x.Create(2, -2)
	x.Recycle(10)
	if x.Put(zoo()[3]) != api.ENone {
		t.Error("it is gone")
	}
}

// P12.3: Same looks at all that objects have, but for the lines of bodies.
func TestSame(t *testing.T) {
	x := load(t, zoo()...)
	for i, do := range []func(l []api.Object){
		func(l []api.Object) { l[0].Verbs[0].Body = body(77) },
		func(l []api.Object) { l[3].Defs, l[3].Slots, l[3].Verbs = []string{}, []api.Slot{}, []api.Verb{} },
		func(l []api.Object) { l[0].Verbs[1].Body, l[2].Slots[0].Value.L = []api.Node{}, []api.Value{} },
	} {
		l := zoo()
		do(l)
		if y := load(t, l...); !y.Same(x) || !x.Same(y) {
			t.Error("not the same:", i)
		}
	}
	for i, do := range []func(l []api.Object){
		func(l []api.Object) { l[4].ID = 10 },
		func(l []api.Object) { l[4].Parent = 7 },
		func(l []api.Object) { l[3].Owner = 2 },
		func(l []api.Object) { l[2].Place = 7 },
		func(l []api.Object) { l[2].Flags = api.Reads },
		func(l []api.Object) { l[4].Quota = 4 },
		func(l []api.Object) { l[1].Name = "Bird" },
		func(l []api.Object) { own(&l[4], "a") },
		func(l []api.Object) { l[0].Slots[0].Owner = 7 },
		func(l []api.Object) { l[2].Slots[0].Bits = 0 },
		func(l []api.Object) { l[2].Slots[0].Clear = false },
		func(l []api.Object) { l[0].Slots[1].Value.L[1].L[0].N = 2 },
		func(l []api.Object) { l[0].Verbs[0].Names = "cry" },
		func(l []api.Object) { l[0].Verbs[1].Owner = 9 },
		func(l []api.Object) { l[0].Verbs[1].Bits = api.R },
		func(l []api.Object) { l[0].Verbs[0].Text = "return x; " },
		func(l []api.Object) { l[0].Verbs[0].Body[0].L[0].S = "y" },
		func(l []api.Object) { l[0].Verbs[0], l[0].Verbs[1] = l[0].Verbs[1], l[0].Verbs[0] },
		func(l []api.Object) { l[0].Verbs = l[0].Verbs[:1] },
	} {
		l := zoo()
		do(l)
		if y := load(t, l...); y.Same(x) || x.Same(y) {
			t.Error("the same:", i)
		}
	}
	y := load(t, zoo()[:4]...)
	if y.Same(x) || x.Same(y) || x.Same(objs.New()) || !objs.New().Same(objs.New()) {
		t.Error("others")
	}
	// A property of the same name that another one began.
	a, b := zoo(), zoo()
	own(&a[3], "z")
	a[4].Parent, a[4].Slots = 7, []api.Slot{{Name: "z", Owner: 9, Clear: true}}
	own(&b[4], "z")
	b[4].Parent = 7
	if load(t, a...).Same(load(t, b...)) {
		t.Error("another one's property")
	}
}

// P12.3: Same asks which objects there are, so a table is the same when it is loaded again, whatever was recycled.
func TestSameWhenLoaded(t *testing.T) {
	x := load(t, zoo()...)
	x.Create(2, 9)
	x.Recycle(10)
	if y := load(t, x.All()...); !y.Same(x) || !x.Same(y) || !x.Same(load(t, zoo()...)) {
		t.Error("loaded again it is another one")
	}
}

// P12.3: a clone is the same, and each goes its own way.
func TestClone(t *testing.T) {
	x := load(t, zoo()...)
	for i, do := range []func(y *objs.Table) int{
		func(y *objs.Table) int { _, code := y.Create(2, 9); return code },
		func(y *objs.Table) int { return y.Recycle(9) },
		func(y *objs.Table) int { return y.Chparent(5, 2) },
		func(y *objs.Table) int { return y.Move(5, 9) },
		func(y *objs.Table) int { o := zoo()[3]; o.Name = "box"; return y.Put(o) },
	} {
		y, z := x.Clone(), x.Clone()
		if !y.Same(x) || !reflect.DeepEqual(y.All(), x.All()) || y.Max() != x.Max() {
			t.Error("a clone is another one")
		}
		if do(y) != api.ENone || y.Same(x) || !z.Same(x) || !reflect.DeepEqual(x.All(), zoo()) {
			t.Error("done to a clone:", i)
		}
		was := y.All()
		if do(z) != api.ENone || !z.Same(y) || !reflect.DeepEqual(y.All(), was) {
			t.Error("done to another clone:", i)
		}
	}
}
