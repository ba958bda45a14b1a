package objs_test

import (
	"math/rand"
	"reflect"
	"slices"
	"strconv"
	"strings"
	"testing"

	"inglenook/api"
	"inglenook/objs"
	"inglenook/val"
)

// property is one that an object begins.
type property struct {
	holder int
	name   string
}

// thing is an object as the model has it: its slots by the property that they are of.
type thing struct {
	api.Object
	slots map[property]api.Slot
}

// model is a table, in the plainest way.
type model struct {
	things map[int]*thing
	max    int
}

func (m *model) above(o int) []int {
	if m.things[o] == nil {
		return nil
	}
	return append([]int{o}, m.above(m.things[o].Parent)...)
}

func (m *model) within(o int) []int {
	if m.things[o] == nil {
		return nil
	}
	return append([]int{o}, m.within(m.things[o].Place)...)
}

func (m *model) there(o int) bool { return o == -1 || m.things[o] != nil }

// names is the names that begin at one of l.
func (m *model) names(l []int) []string {
	var out []string
	for _, o := range l {
		out = append(out, m.things[o].Defs...)
	}
	return out
}

// renew gives o, of which the parent has been renewed, the slots that it ought to have.
func (m *model) renew(o int) {
	x := m.things[o]
	was := x.slots
	x.slots = map[property]api.Slot{}
	for _, above := range m.above(o) {
		for _, name := range m.things[above].Defs {
			p := property{above, name}
			s, is := was[p]
			if !is {
				s = m.things[x.Parent].slots[p]
				if s.Bits&4 == 4 {
					s.Owner = x.Owner
				}
				s.Clear, s.Value = true, api.Value{}
			}
			x.slots[p] = s
		}
	}
	for c, y := range m.things {
		if y.Parent == o {
			m.renew(c)
		}
	}
}

func (m *model) create(parent, owner int) (int, int) {
	if !m.there(parent) {
		return 0, api.EInvArg
	}
	m.max++
	if owner == -1 {
		owner = m.max
	}
	m.things[m.max] = &thing{Object: api.Object{ID: m.max, Parent: parent, Owner: owner, Place: -1}}
	m.renew(m.max)
	return m.max, 0
}

func (m *model) recycle(o int) int {
	if m.things[o] == nil {
		return api.EInvArg
	}
	for c, y := range m.things {
		if y.Place == o {
			y.Place = -1
		}
		if y.Parent == o {
			y.Parent = m.things[o].Parent
			m.renew(c)
		}
	}
	delete(m.things, o)
	return 0
}

func (m *model) chparent(o, parent int) int {
	if m.things[o] == nil || !m.there(parent) {
		return api.EInvArg
	}
	if slices.Contains(m.above(parent), o) {
		return api.ERecMv
	}
	for c := range m.things {
		if !slices.Contains(m.above(c), o) {
			continue
		}
		for _, name := range m.things[c].Defs {
			if slices.Contains(m.names(m.above(parent)), name) {
				return api.EInvArg
			}
		}
	}
	m.things[o].Parent = parent
	m.renew(o)
	return 0
}

func (m *model) move(o, to int) int {
	if m.things[o] == nil || !m.there(to) {
		return api.EInvArg
	}
	if slices.Contains(m.within(to), o) {
		return api.ERecMv
	}
	m.things[o].Place = to
	return 0
}

func (m *model) all() []api.Object {
	var out []api.Object
	for _, x := range m.things {
		o := x.Object
		for _, s := range x.slots {
			o.Slots = append(o.Slots, s)
		}
		slices.SortFunc(o.Slots, func(a, b api.Slot) int { return strings.Compare(a.Name, b.Name) })
		out = append(out, o)
	}
	slices.SortFunc(out, func(a, b api.Object) int { return a.ID - b.ID })
	return out
}

func (m *model) those(o int, up func(x *thing) int) []int {
	var out []int
	for c, x := range m.things {
		if m.things[o] != nil && up(x) == o {
			out = append(out, c)
		}
	}
	slices.Sort(out)
	return out
}

// put is some change of the slots of an object that may be: none of its own is Clear.
func put(r *rand.Rand, m *model, o int) api.Object {
	x := m.things[o]
	for p, s := range x.slots {
		s.Owner, s.Bits = r.Intn(20)-1, r.Intn(8)
		s.Clear, s.Value = p.holder != o && r.Intn(2) == 0, api.Value{}
		if !s.Clear {
			s.Value = val.L(val.I(int64(r.Intn(3))), val.S("v"))
		}
		x.slots[p] = s
	}
	x.Name, x.Flags, x.Quota, x.Owner = "n"+strconv.Itoa(r.Intn(9)), r.Intn(64), r.Intn(9), r.Intn(12)-1
	all := m.all()
	return all[slices.IndexFunc(all, func(y api.Object) bool { return y.ID == o })]
}

// define gives an object that has no children, and no Defs, some.
func define(r *rand.Rand, m *model, o int) bool {
	if len(m.those(o, func(x *thing) int { return x.Parent })) > 0 || len(m.things[o].Defs) > 0 {
		return false
	}
	taken := m.names(m.above(o))
	for _, name := range []string{"a", "b", "c", "d", "e"} {
		if r.Intn(4) == 0 && !slices.Contains(taken, name) {
			m.things[o].Defs = append(m.things[o].Defs, name)
			m.things[o].slots[property{o, name}] = api.Slot{Name: name}
		}
	}
	return true
}

// step does something to both, and tells what each answered.
func step(r *rand.Rand, x *objs.Table, m *model) (string, [2]int, [2]int) {
	a, b := r.Intn(m.max+3)-1, r.Intn(m.max+4)-2
	switch n := r.Intn(20); {
	case n < 4 && len(m.things) < 14:
		o, code := x.Create(b, a)
		p, want := m.create(b, a)
		return "Create", [2]int{o, code}, [2]int{p, want}
	case n < 5:
		return "Recycle", [2]int{x.Recycle(a)}, [2]int{m.recycle(a)}
	case n < 10:
		return "Chparent", [2]int{x.Chparent(a, b)}, [2]int{m.chparent(a, b)}
	case n < 13:
		return "Move", [2]int{x.Move(a, b)}, [2]int{m.move(a, b)}
	case m.things[a] != nil && (n < 16 || define(r, m, a)):
		return "Put", [2]int{x.Put(put(r, m, a))}, [2]int{}
	}
	return "nothing", [2]int{}, [2]int{}
}

// P12.1 to P12.3: a table does at random what the plain model does, and what errors answer leave no trace; at each step it is one that Load lets pass.
func TestRandom(t *testing.T) {
	for seed := range int64(60) {
		r := rand.New(rand.NewSource(seed))
		x, m := objs.New(), &model{things: map[int]*thing{}, max: -1}
		for i := range 200 {
			was := x.Clone()
			what, got, want := step(r, x, m)
			if got != want {
				t.Fatalf("seed %d, %d: %s: %v, not %v", seed, i, what, got, want)
			}
			if want[1] != 0 && (!was.Same(x) || was.Max() != x.Max()) {
				t.Fatalf("seed %d, %d: %s changes something", seed, i, what)
			}
			agree(t, x, m)
			if t.Failed() {
				t.Fatalf("seed %d, %d: %s", seed, i, what)
			}
		}
	}
}

// agree holds the table against the model.
func agree(t *testing.T, x *objs.Table, m *model) {
	t.Helper()
	all := m.all()
	if got := x.All(); !reflect.DeepEqual(plain(got), plain(all)) || x.Max() != m.max {
		t.Errorf("%+v, not %+v", got, all)
	}
	if y, err := objs.Load(all...); err != nil || !y.Same(x) {
		t.Error("loaded again:", err)
	}
	for o := -2; o < m.max+2; o++ {
		if !slices.Equal(x.Children(o), m.those(o, func(x *thing) int { return x.Parent })) || !slices.Equal(x.Contents(o), m.those(o, func(x *thing) int { return x.Place })) || !slices.Equal(x.Above(o), m.above(o)) {
			t.Error("kin of", o)
		}
		for p := -2; p < m.max+2; p++ {
			if x.Is(o, p) != slices.Contains(m.above(o), p) {
				t.Error("Is", o, p)
			}
		}
	}
}
