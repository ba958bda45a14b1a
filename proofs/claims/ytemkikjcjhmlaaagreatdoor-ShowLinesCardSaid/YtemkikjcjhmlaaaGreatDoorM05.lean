/- The contract of the reader's numbers. -/
import Derived.Test.YtemkikjcjhmlaaaGreatDoorM03
import Derived.Deep.RegionWith
namespace Go.Proofs.YtemkikjcjhmlaaaGreatDoor
open Go.RowKit
set_option maxRecDepth 100000

/-- Where the reader of block g stands. -/
def rdPos (w : World) (g : Nat) : Nat := match w.cell? ⟨g, 1, none⟩ with | some (.int _ n) => n.toNat | _ => 0
theorem neg_u64 (n : Int) (h0 : 0 ≤ n) (h1 : n ≤ 9223372036854775808) : wrap64 (IntKind.u64.wrap (-n)) = -n := by
  have e : IntKind.u64.wrap (-n) = (-n) % 18446744073709551616 := rfl
  rw [e]; unfold wrap64; omega

end Go.Proofs.YtemkikjcjhmlaaaGreatDoor
