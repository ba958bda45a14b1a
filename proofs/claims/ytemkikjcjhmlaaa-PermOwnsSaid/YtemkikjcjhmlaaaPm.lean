/- Package perm: who may what. Printed by gen_perm.py. -/
import Derived.Test.YtemkikjcjhmlaaaBase
import Derived.Test.YtemkikjcjhmlaaaProg
import Derived.Below
import Derived.WalkKit
import Derived.ProofKit
import Derived.Lib.Hide
import Derived.LoopTactic
import Derived.Deep.RegionWith
import Derived.Deep.DeepCutAuto
import Derived.Deep.QuietTactic
import Derived.BigQuiet
import Derived.KernelRfl
import Derived.Test.YtemkikjcjhmlaaaLex
namespace Go.Proofs.Ytemkikjcjhmlaaa.Pm
open Go.RowKit
set_option maxRecDepth 100000

def an (a k : Int) : Bool := bits .and .i64 a k != 0
def goB (id : Int) (wz : Bool) (ow : Int) : Bool := wz || (id == ow)
def slotB (id : Int) (wz : Bool) (op ow b : Int) : Bool := if op = 1 then an b 1 || goB id wz ow else if op = 2 then an b 2 || goB id wz ow else if op = 4 then goB id wz ow else false
def verbB (id : Int) (wz pg : Bool) (op ow b : Int) : Bool := if op = 5 then an b 1 || goB id wz ow else if op = 6 then pg && (an b 2 || goB id wz ow) else if op = 7 then an b 4 else false
def objB (id : Int) (wz pg : Bool) (op ow f : Int) : Bool :=
  if op = 8 then pg && (an f 16 || goB id wz ow) else if op = 3 then an f 16 || goB id wz ow else if op = 13 then (if an f 1 = true then wz else goB id wz ow) else if op = 10 ∨ op = 12 ∨ op = 14 then goB id wz ow else if op = 15 then wz else false
def twoB (id : Int) (wz pg : Bool) (op i ow f pw : Int) : Bool :=
  if op = 9 then pg && goB id wz i && (an f 32 || goB id wz pw) else if op = 11 then goB id wz ow && (an f 32 || goB id wz pw) else false

theorem classB (w : World) : ∃ (Ix : Type) (f : Ix → World), Nonempty Ix ∧ (∀ x, Below w.heap.size w (f x)) ∧ (∀ W, Below w.heap.size w W → ∃ x, W = f x) :=
  ⟨{W : World // Below w.heap.size w W}, Subtype.val, ⟨⟨w, Below.refl _ _⟩⟩, fun x => x.2, fun W h => ⟨⟨W, h⟩, rfl⟩⟩
theorem calls_toC {P : Program} {fn : FuncId} {args : Array Value} {w : World} {v : Value} {R : World → Prop} (h : Calls P fn args w fun e w' => e = .returned v ∧ Below w.heap.size w w') (hb : ∀ W, Below w.heap.size w W → R W) : Calls P fn args w fun e W => e = .returned v ∧ R W := h.mono fun _ W h => ⟨h.1, hb W h.2⟩
theorem wp_region_class {P : Program} {C : World → Prop} {id : Nat} {Q : Exit → Act → World → Prop} {a : Act} {w : World} {l : List Oper} (hm : P.follows .mixedOrders = true) (hB : Region.lexB .any l.toArray = true) (hC : C w.drew)
    (h : wpQuiet P l.toArray C (fun a' => ∀ w', C w' → Q .normal a' w') l a) : (Code.region id l.toArray true).wp P Q a w :=
  wp_region_quiet hm hB hC (by simpa using h)

set_option maxHeartbeats 2000000 in
theorem goesFor_any (id : Int) (wz pg : Bool) (ow : Int) (w : World) : Calls Try.prog 21 #[.agg #[.int .i64 id, .bool wz, .bool pg], .int .i64 ow] w fun e w' => e = .returned (.bool (goB id wz ow)) ∧ Below w.heap.size w w' := by
  have HB := Lib.hid ((Below.refl w.heap.size w).alloc (Nat.le_refl _) (.cells #[.int .i64 id, .bool wz, .bool pg] 23))
  cases wz with
  | true =>
    go_enter Try.func21, Try.ntmps21
    go_wp2
    go_ret
    exact ⟨ret_bool rfl, HB.out⟩
  | false =>
    go_enter Try.func21, Try.ntmps21
    go_wp2
    go_ret
    exact ⟨ret_bool (by unfold goB; simp), HB.out⟩
end Go.Proofs.Ytemkikjcjhmlaaa.Pm
