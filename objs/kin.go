package objs

import (
	"cmp"
	"slices"

	"inglenook/api"
)

// Create makes an object; an owner of -1 is the object itself.
func (t *Table) Create(parent, owner int) (int, int) {
	if !t.isThereOrNone(parent) {
		return 0, api.EInvArg
	}
	if len(t.all) >= api.MaxObjects || t.max >= maxNumber {
		return 0, api.EQuota
	}
	t.max++
	if owner == -1 {
		owner = t.max
	}
	t.odd = t.odd || !isOwner(owner)
	o := &api.Object{ID: t.max, Parent: parent, Owner: owner, Place: -1}
	t.all[o.ID] = o
	if p := t.all[parent]; p != nil {
		for _, s := range p.Slots {
			o.Slots = append(o.Slots, inherited(s, owner))
		}
	}
	return o.ID, api.ENone
}

// inherited is a slot as a child of that owner has it at first.
func inherited(s api.Slot, owner int) api.Slot {
	if s.Bits&api.C != 0 {
		s.Owner = owner
	}
	s.Clear, s.Value = true, api.Value{}
	return s
}

// Recycle takes an object away.
func (t *Table) Recycle(o int) int {
	x := t.all[o]
	if x == nil {
		return api.EInvArg
	}
	for _, c := range t.Children(o) {
		t.hang(t.all[c], x.Parent)
	}
	for _, c := range t.Contents(o) {
		t.all[c].Place = -1
	}
	delete(t.all, o)
	return api.ENone
}

// Chparent gives an object another parent.
func (t *Table) Chparent(o, parent int) int {
	if !t.Has(o) || !t.isThereOrNone(parent) {
		return api.EInvArg
	}
	if t.Is(parent, o) {
		return api.ERecMv
	}
	above := t.holders(parent)
	for _, x := range t.family(o) {
		for _, name := range x.Defs {
			if _, twice := above[name]; twice {
				return api.EInvArg
			}
		}
	}
	t.hang(t.all[o], parent)
	return api.ENone
}

// hang gives x another parent, and it and all below it the slots that they have there.
func (t *Table) hang(x *api.Object, parent int) {
	old, now := t.holders(x.Parent), t.holders(parent)
	x.Parent = parent
	isGone := func(s api.Slot) bool { return has(old, s.Name) && !agree(old, now, s.Name) }
	isNew := func(s api.Slot) bool { return has(now, s.Name) && !agree(old, now, s.Name) }
	for _, y := range t.family(x.ID) {
		y.Slots = slices.DeleteFunc(y.Slots, isGone)
		if p := t.all[y.Parent]; p != nil {
			for _, s := range p.Slots {
				if isNew(s) {
					y.Slots = append(y.Slots, inherited(s, y.Owner))
				}
			}
		}
		slices.SortFunc(y.Slots, func(a, b api.Slot) int { return cmp.Compare(a.Name, b.Name) })
	}
}

func has(holders map[string]int, name string) bool {
	_, is := holders[name]
	return is
}

// agree tells whether the name is the same property in both: that of one object.
func agree(a, b map[string]int, name string) bool {
	return has(a, name) && has(b, name) && a[name] == b[name]
}

// holders tells of each property that o has, its own and those above it, whose Defs have it.
func (t *Table) holders(o int) map[string]int {
	x := t.all[o]
	if x == nil {
		return nil
	}
	row, _ := t.all.row(x, parentOf)
	return holders(row)
}

// Move gives an object another place.
func (t *Table) Move(o, to int) int {
	if !t.Has(o) || !t.isThereOrNone(to) {
		return api.EInvArg
	}
	if slices.Contains(t.numbersOf(to, placeOf), o) {
		return api.ERecMv
	}
	t.all[o].Place = to
	return api.ENone
}

// isThereOrNone tells whether something may have o as its parent or as its place.
func (t *Table) isThereOrNone(o int) bool { return o == -1 || t.Has(o) }

// Children is the objects of which o is the parent, rising.
func (t *Table) Children(o int) []int { return t.those(o, parentOf) }

// Contents is the objects of which o is the place, rising.
func (t *Table) Contents(o int) []int { return t.those(o, placeOf) }

func (t *Table) those(o int, up func(*api.Object) int) []int {
	if !t.Has(o) {
		return nil
	}
	var l []int
	for n, x := range t.all {
		if up(x) == o {
			l = append(l, n)
		}
	}
	slices.Sort(l)
	return l
}

// Above is o, its parent, and so on.
func (t *Table) Above(o int) []int { return t.numbersOf(o, parentOf) }

// Is tells whether parent is o, or is above it.
func (t *Table) Is(o, parent int) bool { return slices.Contains(t.Above(o), parent) }

// numbersOf is the numbers of the row that begins with o.
func (t *Table) numbersOf(o int, up func(*api.Object) int) []int {
	if !t.Has(o) {
		return nil
	}
	var l []int
	row, _ := t.all.row(t.all[o], up)
	for _, x := range row {
		l = append(l, x.ID)
	}
	return l
}

// family is o and all below it, each ahead of its children.
func (t *Table) family(o int) []*api.Object {
	l := []*api.Object{t.all[o]}
	for i := 0; i < len(l); i++ {
		for _, c := range t.Children(l[i].ID) {
			l = append(l, t.all[c])
		}
	}
	return l
}
