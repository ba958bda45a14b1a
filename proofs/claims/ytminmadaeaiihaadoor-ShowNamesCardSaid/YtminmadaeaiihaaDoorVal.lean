/- Contracts of package val, a function each. -/
import Derived.Test.YtminmadaeaiihaaDoorRows
import Derived.Test.YtminmadaeaiihaaDoorBase
import Derived.Handy
import Derived.WalkSpells
namespace Go.Proofs.YtminmadaeaiihaaDoor
open Go.RowKit

set_option maxHeartbeats 400000 in
theorem sizeAlone_any (k n : Int) (s : ByteArray) (p : Value) (w : World) (hs : s.size ≤ 140737488355328) :
    Calls Tryd.prog 147 #[.agg #[.int .i64 k, .int .i64 n, .string s, p]] w fun e w' => e = .returned (.int .i64 (szAlone (.mk k n s []))) ∧ Below w.heap.size w w' := by
  go_enter Tryd.func147, Tryd.ntmps147
  go_wp2
  · have h : (k == 2) = true := by assumption
    go_ret
    refine ⟨ret_int ?_, by go_grown⟩
    simp only [szAlone]; rw [if_pos (by simpa using h)]
  · have h : (k == 2) = false := by assumption
    go_ret
    refine ⟨ret_int ?_, by go_grown⟩
    simp only [szAlone]; rw [if_neg (by simpa using h)]

end Go.Proofs.YtminmadaeaiihaaDoor
