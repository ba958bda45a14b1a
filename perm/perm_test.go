package perm_test

import (
	"math"
	"reflect"
	"testing"

	"inglenook/api"
	"inglenook/perm"
)

// own and progr are who owns what the tests look at; other and wiz are not.
var (
	own        = perm.Who{ID: 1}
	progr      = perm.Who{ID: 1, Progr: true}
	other      = perm.Who{ID: 2}
	otherProgr = perm.Who{ID: 2, Progr: true}
	wiz        = perm.Who{ID: 9, Wizard: true}
	wizProgr   = perm.Who{ID: 9, Wizard: true, Progr: true}
)

// all is each of them, in the order of the rows of the tests.
var all = []perm.Who{own, progr, other, otherProgr, wiz, wizProgr}

// Each row tells for whom of all an op may be: x may, - may not.
const (
	everyone  = "xxxxxx"
	nobody    = "------"
	progrs    = "-x-x-x"
	owners    = "xx--xx"
	progrOwns = "-x---x"
	wizards   = "----xx"
	wizProgrs = "-----x"
)

func look(t *testing.T, what string, op, bits int, row string, may func(w perm.Who) bool) {
	t.Helper()
	for i, w := range all {
		if want := row[i] == 'x'; may(w) != want {
			t.Errorf("%s %d of bits %d for %+v: %v, not %v", what, op, bits, w, !want, want)
		}
	}
}

// noOps are numbers that are no op of any call.
var noOps = []int{math.MinInt, -16, -1, 0, 16, 17, 32, 64, 255, 256 + perm.ReadProp, 1<<32 + perm.Move, math.MaxInt}

// ops are all numbers that the tests hand in as an op.
func ops() []int {
	l := noOps
	for op := perm.ReadProp; op <= perm.SetOwner; op++ {
		l = append(l[:len(l):len(l)], op)
	}
	return l
}

// The numbers are those of the chapter: what has been kept or shown by number stays what it was.
func TestNumbers(t *testing.T) {
	got := []int{perm.ReadProp, perm.WriteProp, perm.AddProp, perm.InfoProp, perm.ReadVerb, perm.WriteVerb, perm.CallVerb, perm.AddVerb, perm.Create, perm.Recycle, perm.Chparent, perm.Move, perm.SetName, perm.SetFlag, perm.SetOwner}
	for i, n := range got {
		if n != i+1 {
			t.Errorf("number %d is %d", i+1, n)
		}
	}
}

// P11.1: a wizard controls all, others what they own, whatever its flags; who is the object itself, or owns as Progr, is no more for it.
func TestControls(t *testing.T) {
	for flags := range 64 {
		look(t, "Controls", 0, flags, owners, func(w perm.Who) bool {
			return perm.Controls(w, api.Object{ID: w.ID, Parent: w.ID, Place: w.ID, Quota: w.ID, Owner: 1, Flags: flags})
		})
	}
	for _, id := range []int{math.MinInt, -1, 0, 7, math.MaxInt} {
		if !perm.Controls(perm.Who{ID: id}, api.Object{Owner: id}) || perm.Controls(perm.Who{ID: id}, api.Object{ID: id, Owner: id ^ 1}) || perm.Controls(perm.Who{ID: id}, api.Object{ID: id, Owner: ^id}) {
			t.Error("Controls of", id)
		}
	}
	if !perm.Controls(perm.Who{}, api.Object{}) {
		t.Error("Controls of nothing")
	}
}

// P11.1: Slot at every op and all bits, and at bits beyond them.
func TestSlot(t *testing.T) {
	for bits := -1; bits < 32; bits++ {
		read, write := owners, owners
		if bits&1 != 0 {
			read = everyone
		}
		if bits&2 != 0 {
			write = everyone
		}
		want := map[int]string{perm.ReadProp: read, perm.WriteProp: write, perm.InfoProp: owners}
		for _, op := range ops() {
			row := nobody
			if r, ok := want[op]; ok {
				row = r
			}
			for _, clear := range []bool{false, true} {
				look(t, "Slot", op, bits, row, func(w perm.Who) bool {
					return perm.Slot(w, op, api.Slot{Name: "a", Owner: 1, Bits: bits, Clear: clear})
				})
			}
		}
	}
}

// P11.1: Verb at every op and all bits, and at bits beyond them. No wizard, nor its owner, may call what has not bit X.
func TestVerb(t *testing.T) {
	for bits := -1; bits < 64; bits++ {
		read, write, call := owners, progrOwns, nobody
		if bits&1 != 0 {
			read = everyone
		}
		if bits&2 != 0 {
			write = progrs
		}
		if bits&4 != 0 {
			call = everyone
		}
		want := map[int]string{perm.ReadVerb: read, perm.WriteVerb: write, perm.CallVerb: call}
		for _, op := range ops() {
			row := nobody
			if r, ok := want[op]; ok {
				row = r
			}
			look(t, "Verb", op, bits, row, func(w perm.Who) bool {
				return perm.Verb(w, op, api.Verb{Names: "a", Owner: 1, Bits: bits, Text: "x;"})
			})
		}
	}
}

// P11.2: Object at every op and all flags, and at flags beyond them. The flags of the object that tell of it as who does something count for nothing.
func TestObject(t *testing.T) {
	for flags := -1; flags < 128; flags++ {
		addProp, addVerb, setName := owners, progrOwns, owners
		if flags&16 != 0 {
			addProp, addVerb = everyone, progrs
		}
		if flags&1 != 0 {
			setName = wizards
		}
		want := map[int]string{
			perm.AddProp: addProp, perm.AddVerb: addVerb,
			perm.Recycle: owners, perm.Move: owners,
			perm.SetName: setName, perm.SetFlag: owners, perm.SetOwner: wizards,
		}
		for _, op := range ops() {
			row := nobody
			if r, ok := want[op]; ok {
				row = r
			}
			look(t, "Object", op, flags, row, func(w perm.Who) bool {
				return perm.Object(w, op, api.Object{ID: w.ID, Parent: w.ID, Place: w.ID, Quota: w.ID, Owner: 1, Flags: flags})
			})
		}
	}
}

// P11.2: Two's Create: Progr, for oneself or as a wizard, from a parent with Fert or one that w controls. Who owns o counts for nothing: its ID is the owner-to-be.
func TestTwoCreate(t *testing.T) {
	for flags := -1; flags < 128; flags++ {
		fert := flags&32 != 0
		for _, owner := range []int{1, 2, 9, -1} {
			for _, x := range []struct {
				id, from int
				row      string
			}{
				{1, 1, progrOwns}, {2, 2, "---x-x"}, {9, 9, wizProgrs},
				{1, 2, wizProgrs}, {2, 1, wizProgrs}, {5, 5, wizProgrs}, {1, 5, wizProgrs}, {5, 1, wizProgrs}, {-1, -1, wizProgrs},
			} {
				if fert {
					x.row = map[int]string{1: progrOwns, 2: "---x-x", 9: wizProgrs, 5: wizProgrs, -1: wizProgrs}[x.id]
				}
				look(t, "Create", perm.Create, flags, x.row, func(w perm.Who) bool {
					return perm.Two(w, perm.Create, api.Object{ID: x.id, Owner: owner, Flags: 63}, api.Object{ID: w.ID, Owner: x.from, Flags: flags})
				})
			}
		}
	}
}

// P11.2: Two's Chparent: who controls o, to a parent with Fert or one that w controls. What o's own flags are, and its ID, counts for nothing.
func TestTwoChparent(t *testing.T) {
	for flags := -1; flags < 128; flags++ {
		fert := flags&32 != 0
		for _, x := range []struct {
			owner, of int
			row, open string
		}{
			{1, 1, owners, owners}, {1, 2, wizards, owners}, {2, 1, wizards, "--xxxx"}, {2, 2, "--xxxx", "--xxxx"},
			{9, 9, wizards, wizards}, {5, 5, wizards, wizards}, {1, 5, wizards, owners}, {5, 1, wizards, wizards},
		} {
			row := x.row
			if fert {
				row = x.open
			}
			look(t, "Chparent", perm.Chparent, flags, row, func(w perm.Who) bool {
				return perm.Two(w, perm.Chparent, api.Object{ID: w.ID, Owner: x.owner, Flags: 63}, api.Object{ID: w.ID, Owner: x.of, Flags: flags})
			})
		}
	}
}

// P11.1, P11.2: what is no op of a call may nobody, a wizard neither.
func TestOtherOps(t *testing.T) {
	for _, op := range ops() {
		if op == perm.Create || op == perm.Chparent {
			continue
		}
		look(t, "Two", op, 63, nobody, func(w perm.Who) bool {
			return perm.Two(w, op, api.Object{ID: w.ID, Owner: w.ID, Flags: 63}, api.Object{ID: w.ID, Owner: w.ID, Flags: 63})
		})
	}
	for _, op := range noOps {
		for _, w := range all {
			if perm.Slot(w, op, api.Slot{Owner: w.ID, Bits: 7}) || perm.Verb(w, op, api.Verb{Owner: w.ID, Bits: 15}) || perm.Object(w, op, api.Object{Owner: w.ID, Flags: 63}) {
				t.Errorf("op %d is one for %+v", op, w)
			}
		}
	}
}

// P11.1, P11.2: a wizard may all that has neither Progr nor a bit X to it, of what is nobody's.
func TestWizard(t *testing.T) {
	nobodys := api.Object{ID: 3, Owner: -1, Flags: api.Player}
	for _, op := range []int{perm.AddProp, perm.Recycle, perm.Move, perm.SetName, perm.SetFlag, perm.SetOwner} {
		if !perm.Object(wiz, op, nobodys) || perm.Object(other, op, nobodys) {
			t.Error("op", op)
		}
	}
	if !perm.Two(wiz, perm.Chparent, nobodys, nobodys) || !perm.Two(wizProgr, perm.Create, nobodys, nobodys) {
		t.Error("a wizard makes no children")
	}
}

// P0.4, P0.5: what is handed in stays as it is, and an answer is the same again.
func TestNothingBeside(t *testing.T) {
	o := api.Object{ID: 1, Owner: 1, Name: "a", Defs: []string{"d"}, Slots: []api.Slot{{Name: "d", Owner: 1}}, Verbs: []api.Verb{{Names: "v", Owner: 1}}}
	was := api.Object{ID: 1, Owner: 1, Name: "a", Defs: []string{"d"}, Slots: []api.Slot{{Name: "d", Owner: 1}}, Verbs: []api.Verb{{Names: "v", Owner: 1}}}
	for range 2 {
		for _, w := range all {
			for _, op := range ops() {
				perm.Object(w, op, o)
				perm.Two(w, op, o, o)
			}
		}
		if !perm.Object(own, perm.AddProp, o) || perm.Object(other, perm.AddProp, o) {
			t.Error("AddProp is another one after other calls")
		}
	}
	if !reflect.DeepEqual(o, was) {
		t.Errorf("it is changed: %+v", o)
	}
}
