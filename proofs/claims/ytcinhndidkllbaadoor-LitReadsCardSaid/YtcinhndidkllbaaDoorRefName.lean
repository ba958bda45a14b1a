/- The document's names of codes. -/
import Derived.Test.YtcinhndidkllbaaDoorCod
import Derived.WalkSpells
namespace Go.Proofs.YtcinhndidkllbaaDoor
open Go.RowKit
set_option maxRecDepth 100000

theorem ret_strE {a b : ByteArray} (h : a = b) : Ending.returned (.string a) = .returned (.string b) := by rw [h]
theorem refName_out (n : Int) (w : World) (h : n < 0 ∨ 14 < n) :
    Calls Tryd.prog 33 #[.int .i64 n] w fun e w' => e = .returned (.string ⟨(nameOf n).toArray⟩) ∧ w = w' := by
  have e : nameOf n = [] := by
    unfold nameOf
    split
    · rfl
    · rw [List.getElem?_eq_none (by show 15 ≤ n.toNat; omega)]; rfl
  rw [e]; clear e
  have h0 : (n == 0) = false := beq_eq_false_iff_ne.2 (by omega)
  have h1 : (n == 1) = false := beq_eq_false_iff_ne.2 (by omega)
  have h2 : (n == 2) = false := beq_eq_false_iff_ne.2 (by omega)
  have h3 : (n == 3) = false := beq_eq_false_iff_ne.2 (by omega)
  have h4 : (n == 4) = false := beq_eq_false_iff_ne.2 (by omega)
  have h5 : (n == 5) = false := beq_eq_false_iff_ne.2 (by omega)
  have h6 : (n == 6) = false := beq_eq_false_iff_ne.2 (by omega)
  have h7 : (n == 7) = false := beq_eq_false_iff_ne.2 (by omega)
  have h8 : (n == 8) = false := beq_eq_false_iff_ne.2 (by omega)
  have h9 : (n == 9) = false := beq_eq_false_iff_ne.2 (by omega)
  have h10 : (n == 10) = false := beq_eq_false_iff_ne.2 (by omega)
  have h11 : (n == 11) = false := beq_eq_false_iff_ne.2 (by omega)
  have h12 : (n == 12) = false := beq_eq_false_iff_ne.2 (by omega)
  have h13 : (n == 13) = false := beq_eq_false_iff_ne.2 (by omega)
  have h14 : (n == 14) = false := beq_eq_false_iff_ne.2 (by omega)
  clear h
  go_enter Tryd.func33, Tryd.ntmps33
  go_wp2
  go_ret
  exact ⟨rfl, rfl⟩
theorem refName_any (n : Int) (w : World) :
    Calls Tryd.prog 33 #[.int .i64 n] w fun e w' => e = .returned (.string ⟨(nameOf n).toArray⟩) ∧ w = w' := by
  by_cases h : n < 0 ∨ 14 < n
  · exact refName_out n w h
  · have hc : n = 0 ∨ n = 1 ∨ n = 2 ∨ n = 3 ∨ n = 4 ∨ n = 5 ∨ n = 6 ∨ n = 7 ∨ n = 8 ∨ n = 9 ∨ n = 10 ∨ n = 11 ∨ n = 12 ∨ n = 13 ∨ n = 14 := by omega
    clear h
    rcases hc with rfl | rfl | rfl | rfl | rfl | rfl | rfl | rfl | rfl | rfl | rfl | rfl | rfl | rfl | rfl
    all_goals
      go_enter Tryd.func33, Tryd.ntmps33
      go_wp2
      go_ret
      exact ⟨ret_strE (by decide +kernel), rfl⟩

end Go.Proofs.YtcinhndidkllbaaDoor
