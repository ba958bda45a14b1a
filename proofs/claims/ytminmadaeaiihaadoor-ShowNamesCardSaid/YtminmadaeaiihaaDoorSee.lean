/- Errors as plain data: contracts of inglenooksee, for no error and for api's errors. -/
import Derived.Test.YtminmadaeaiihaaDoorSameV
import Derived.LaidEql
namespace Go.Proofs.YtminmadaeaiihaaDoor
open Go.RowKit
set_option maxRecDepth 100000

/-- A fault with nothing around it. -/
def fv (c : Int) : Value := .agg #[.int .i64 c, .bool false, .int .i64 0, .int .i64 0, .int .i64 0, .string ByteArray.empty, .slice none 0 0]

set_option maxHeartbeats 400000 in
theorem bare_any (c : Int) (w : World) : Calls Tryd.prog 50 #[.int .i64 c] w fun e w' => e = .returned (fv c) ∧ Below w.heap.size w w' := by
  go_enter Tryd.func50, Tryd.ntmps50
  go_wp2
  go_returns
  exact ⟨rfl, by go_grown⟩

set_option maxHeartbeats 400000 in
theorem none_any (w : World) : Calls Tryd.prog 52 #[] w fun e w' => e = .returned (fv 0) ∧ Below w.heap.size w w' := by
  go_enter Tryd.func52, Tryd.ntmps52
  go_wp2
  go_returns
  exact ⟨rfl, by go_grown⟩

/-- A box of seven cells (a fault), in whatever world it still stands. -/
theorem box7_in (w2 : World) (g : Nat) (c0 c1 c2 c3 c4 c5 c6 : Value) (t : TypeId) (h : w2.heap[g]? = some (.cells #[c0, c1, c2, c3, c4, c5, c6] t (0, 0))) : w2.cell? ⟨g, 0, none⟩ = some c0 ∧ w2.cell? ⟨g, 1, none⟩ = some c1 ∧
    w2.cell? ⟨g, 2, none⟩ = some c2 ∧ w2.cell? ⟨g, 3, none⟩ = some c3 ∧ w2.cell? ⟨g, 4, none⟩ = some c4 ∧ w2.cell? ⟨g, 5, none⟩ = some c5 ∧ w2.cell? ⟨g, 6, none⟩ = some c6 ∧ ∀ o, w2.frozen? ⟨g, o, none⟩ = false :=
  ⟨(cell_of_row _ _ 0 _ _ _ h).trans rfl, (cell_of_row _ _ 1 _ _ _ h).trans rfl, (cell_of_row _ _ 2 _ _ _ h).trans rfl, (cell_of_row _ _ 3 _ _ _ h).trans rfl, (cell_of_row _ _ 4 _ _ _ h).trans rfl, (cell_of_row _ _ 5 _ _ _ h).trans rfl, (cell_of_row _ _ 6 _ _ _ h).trans rfl, fun o => by simp [World.frozen?, h]⟩
/-- An error of api's, as a value. -/
def ev (a : Addr) : Value := .iface 179 (.pointer (some a))
theorem Tryd.comp_E : (Tryd.prog.info? 179).map (·.comparable) = some true := by kernel_rfl
theorem Tryd.size_E : (Tryd.prog.info? 193).map (·.size) = some 1 := by kernel_rfl

end Go.Proofs.YtminmadaeaiihaaDoor
