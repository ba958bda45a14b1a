/- Errors with a place as plain data. -/
import Derived.Test.YtemkikjcjhmlaaaGreatDoorM02
import Derived.Deep.DeepCutAuto
namespace Go.Proofs.YtemkikjcjhmlaaaGreatDoor
open Go.RowKit
set_option maxRecDepth 100000

/-- A fault with a place. -/
def fp (c p : Int) : Value := .agg #[.int .i64 c, .bool true, .int .i64 p, .int .i64 0, .int .i64 0, .string ByteArray.empty, .slice none 0 0]
set_option maxHeartbeats 400000 in
theorem placed_any (c p : Int) (hc : c ≠ 0) (w : World) : Calls Tryz.prog 28 #[.int .i64 c, .int .i64 p] w fun e w' => e = .returned (fp c p) ∧ Below w.heap.size w w' := by
  have hb : (c == 0) = false := by simpa using hc
  go_enter Tryz.func28, Tryz.ntmps28
  go_wp2
  go_returns
  exact ⟨rfl, by go_grown⟩

theorem assert_at_yes (W : World) (a : Addr) : (Instr.typeAssert (.iface 86 (.pointer (some a))) 26 86 true).run Tryz.prog W = .ok (.tuple #[.pointer (some a), .bool true]) W := by kernel_rfl

end Go.Proofs.YtemkikjcjhmlaaaGreatDoor
