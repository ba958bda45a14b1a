/- Errors with a place as plain data. -/
import Derived.Test.YtminmadaeaiihaaDoorSee2
import Derived.Deep.DeepCutAuto
namespace Go.Proofs.YtminmadaeaiihaaDoor
open Go.RowKit
set_option maxRecDepth 100000

/-- A fault with a place. -/
def fp (c p : Int) : Value := .agg #[.int .i64 c, .bool true, .int .i64 p, .int .i64 0, .int .i64 0, .string ByteArray.empty, .slice none 0 0]
set_option maxHeartbeats 400000 in
theorem placed_any (c p : Int) (hc : c ≠ 0) (w : World) : Calls Tryd.prog 82 #[.int .i64 c, .int .i64 p] w fun e w' => e = .returned (fp c p) ∧ Below w.heap.size w w' := by
  have hb : (c == 0) = false := by simpa using hc
  go_enter Tryd.func82, Tryd.ntmps82
  go_wp2
  go_returns
  exact ⟨rfl, by go_grown⟩

theorem assert_at_yes (W : World) (a : Addr) : (Instr.typeAssert (.iface 125 (.pointer (some a))) 46 125 true).run Tryd.prog W = .ok (.tuple #[.pointer (some a), .bool true]) W := by kernel_rfl

end Go.Proofs.YtminmadaeaiihaaDoor
