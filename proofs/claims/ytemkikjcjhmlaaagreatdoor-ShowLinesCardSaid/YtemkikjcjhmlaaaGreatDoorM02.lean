/- Errors as plain data, further: which of api's errors one is; Fault, Same, Is. -/
import Derived.Test.YtemkikjcjhmlaaaGreatDoorM00
import Derived.Deep.RegionHeld3
namespace Go.Proofs.YtemkikjcjhmlaaaGreatDoor
open Go.RowKit
set_option maxRecDepth 100000

def SentList (ad : Nat → Addr) (w : World) (e : Ending) (w' : World) : Prop :=
  e = .returned (.slice (some ⟨w.heap.size, 0, none⟩) 17 17) ∧ Below w.heap.size w w' ∧ ∀ i, i < 17 → w'.cell? ⟨w.heap.size, i, none⟩ = some (ev (ad i))

theorem below_set7 {B g : Nat} {a w : World} (h : Below B a w) (hg : B ≤ g) (c0 c1 c2 c3 c4 c5 c6 : Value) :
    Below B a (((((((w.setCell ⟨g, 0, none⟩ c0).setCell ⟨g, 1, none⟩ c1).setCell ⟨g, 2, none⟩ c2).setCell ⟨g, 3, none⟩ c3).setCell ⟨g, 4, none⟩ c4).setCell ⟨g, 5, none⟩ c5).setCell ⟨g, 6, none⟩ c6) :=
  ((((((h.setCell hg c0).setCell hg c1).setCell hg c2).setCell hg c3).setCell hg c4).setCell hg c5).setCell hg c6
theorem assert_at (W : World) (a : Addr) : (Instr.typeAssert (.iface 146 (.pointer (some a))) 26 86 true).run Tryz.prog W = .ok (.tuple #[.pointer none, .bool false]) W := by kernel_rfl

/-- An error as the statements see it: none, or the k-th of api's. -/
def errVal (ad : Nat → Addr) : Option Nat → Value
  | none => .nilIface
  | some k => ev (ad k)
def errCode : Option Nat → Int
  | none => 0
  | some k => 101 + k
end Go.Proofs.YtemkikjcjhmlaaaGreatDoor
