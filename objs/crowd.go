package objs

import (
	"maps"
	"slices"

	"inglenook/api"
	"inglenook/tree"
	"inglenook/val"
)

// crowd is objects by their numbers, right or not.
type crowd map[int]*api.Object

func parentOf(o *api.Object) int { return o.Parent }

func placeOf(o *api.Object) int { return o.Place }

// row is o, and what is up from it, and so on, and whether that ends, at nothing or at what is not there.
func (c crowd) row(o *api.Object, up func(*api.Object) int) ([]*api.Object, bool) {
	l := []*api.Object{o}
	for up(o) != -1 && c[up(o)] != nil {
		// A row that ends has no object twice.
		if len(l) == len(c) {
			return nil, false
		}
		o = c[up(o)]
		l = append(l, o)
	}
	return l, true
}

// holders tells of each name that is among the Defs of a row, whose it is.
func holders(row []*api.Object) map[string]int {
	m := map[string]int{}
	for _, x := range row {
		for _, name := range x.Defs {
			m[name] = x.ID
		}
	}
	return m
}

// numbers is all numbers, rising.
func (c crowd) numbers() []int { return slices.Sorted(maps.Keys(c)) }

func (c crowd) clone() crowd {
	out := make(crowd, len(c))
	for n, x := range c {
		y := cloneObject(*x)
		out[n] = &y
	}
	return out
}

func cloneObject(o api.Object) api.Object {
	o.Defs = append([]string(nil), o.Defs...)
	o.Slots = append([]api.Slot(nil), o.Slots...)
	for i := range o.Slots {
		o.Slots[i].Value = val.Clone(o.Slots[i].Value)
	}
	o.Verbs = append([]api.Verb(nil), o.Verbs...)
	for i := range o.Verbs {
		o.Verbs[i].Body = tree.Clone(o.Verbs[i].Body)
	}
	return o
}

func sameObject(a, b *api.Object) bool {
	return a.ID == b.ID && a.Parent == b.Parent && a.Owner == b.Owner && a.Place == b.Place &&
		a.Flags == b.Flags && a.Quota == b.Quota && a.Name == b.Name &&
		slices.Equal(a.Defs, b.Defs) && slices.EqualFunc(a.Slots, b.Slots, sameSlot) && slices.EqualFunc(a.Verbs, b.Verbs, sameVerb)
}

func sameSlot(a, b api.Slot) bool {
	return a.Name == b.Name && a.Owner == b.Owner && a.Bits == b.Bits && a.Clear == b.Clear && val.Same(a.Value, b.Value)
}

func sameVerb(a, b api.Verb) bool {
	return a.Names == b.Names && a.Owner == b.Owner && a.Bits == b.Bits && a.Text == b.Text && tree.Same(a.Body, b.Body)
}
