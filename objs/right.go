package objs

import (
	"strings"

	"inglenook/api"
	"inglenook/match"
	"inglenook/tree"
	"inglenook/val"
)

const (
	maxNumber = 1<<30 - 1 // of an object
	maxTitle  = 64        // bytes of an object's name
	maxFlags  = api.Player | api.Progr | api.Wizard | api.Reads | api.Writes | api.Fert
	maxQuota  = 1 << 30
	slotBits  = api.R | api.W | api.C
	verbBits  = api.R | api.W | api.X | api.D
)

func (c crowd) areRight() bool {
	for _, x := range c {
		if !c.isRight(x) {
			return false
		}
	}
	return true
}

func (c crowd) isRight(o *api.Object) bool { return isRightAlone(o) && c.fits(o) }

// isRightAlone looks at what doesn't hang on the other objects.
func isRightAlone(o *api.Object) bool {
	return isWithin(o.ID, 0, maxNumber) && len(o.Name) <= maxTitle && isText(o.Name) && isOwner(o.Owner) &&
		isWithin(o.Flags, 0, maxFlags) && isWithin(o.Quota, 0, maxQuota) &&
		areDefs(o.Defs) && areSlots(o.Slots) && areVerbs(o.Verbs)
}

// fits looks at what hangs on the other objects: the parent, the place, and whether each property is there once.
func (c crowd) fits(o *api.Object) bool {
	if !c.isUp(o, placeOf) || !c.isUp(o, parentOf) {
		return false
	}
	row, _ := c.row(o, parentOf)
	names := holders(row[1:])
	for _, name := range o.Defs {
		if has(names, name) {
			return false
		}
		names[name] = o.ID
	}
	return areSlotsOf(names, o)
}

// isUp tells whether what is up from o is there, or nowhere, and the row ends.
func (c crowd) isUp(o *api.Object, up func(*api.Object) int) bool {
	if up(o) != -1 && c[up(o)] == nil {
		return false
	}
	_, ends := c.row(o, up)
	return ends
}

// areSlotsOf tells whether o, of which no slot is there twice, has one for each name, and none is Clear where the name is its own.
func areSlotsOf(holders map[string]int, o *api.Object) bool {
	if len(o.Slots) != len(holders) {
		return false
	}
	for _, s := range o.Slots {
		if !has(holders, s.Name) || s.Clear && holders[s.Name] == o.ID {
			return false
		}
	}
	return true
}

func areDefs(l []string) bool {
	if len(l) > api.MaxDefs {
		return false
	}
	for i, name := range l {
		if i > 0 && name <= l[i-1] || !isName(name) || isBuiltin(name) {
			return false
		}
	}
	return true
}

func areSlots(l []api.Slot) bool {
	for i, s := range l {
		if i > 0 && s.Name <= l[i-1].Name || !isSlot(s) {
			return false
		}
	}
	return true
}

func isSlot(s api.Slot) bool {
	if !isOwner(s.Owner) || !isWithin(s.Bits, 0, slotBits) {
		return false
	}
	if v := s.Value; s.Clear {
		return v.Kind == 0 && v.N == 0 && v.S == "" && len(v.L) == 0
	}
	return val.Valid(s.Value) == nil
}

func areVerbs(l []api.Verb) bool {
	if len(l) > api.MaxDefs {
		return false
	}
	for _, v := range l {
		if !isVerb(v) {
			return false
		}
	}
	return true
}

func isVerb(v api.Verb) bool {
	return match.Valid(v.Names) && isOwner(v.Owner) && isWithin(v.Bits, 0, verbBits) &&
		len(v.Text) <= api.MaxText && isText(strings.ReplaceAll(v.Text, "\n", " ")) && tree.Valid(v.Body...) == nil
}

// isOwner lets any number pass that may ever have been given: an owner may be gone.
func isOwner(n int) bool { return isWithin(n, -1, maxNumber) }

func isWithin(n, least, most int) bool { return n >= least && n <= most }

func isText(s string) bool {
	for i := range len(s) {
		if s[i] < 32 || s[i] > 126 {
			return false
		}
	}
	return true
}

func isName(s string) bool {
	if s == "" || len(s) > api.MaxName {
		return false
	}
	for i := range len(s) {
		switch c := s[i]; {
		case c >= 'a' && c <= 'z', c == '_':
		case c >= '0' && c <= '9' && i > 0:
		default:
			return false
		}
	}
	return true
}

// isBuiltin knows by itself which names the layer above keeps for what is no property.
func isBuiltin(name string) bool {
	switch name {
	case "name", "owner", "location", "contents", "player", "programmer", "wizard", "r", "w", "f":
		return true
	}
	return false
}
