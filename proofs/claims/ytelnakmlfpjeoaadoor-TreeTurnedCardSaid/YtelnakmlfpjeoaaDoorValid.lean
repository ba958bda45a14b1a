/- val.Valid: the error that the document asks. -/
import Derived.Test.YtelnakmlfpjeoaaDoorValidE
import Derived.Test.YtelnakmlfpjeoaaDoorSee2
import Derived.Test.YtelnakmlfpjeoaaDoorFirst
namespace Go.Proofs.YtelnakmlfpjeoaaDoor
open Go.RowKit

/-- Which of api's errors val.Valid answers. -/
def vIdx (t : T) : Option Nat := if oddCode t = 0 then none else some (oddCode t - 101).toNat
theorem vIdx_lt (t : T) : ∀ k, vIdx t = some k → k < 17 := by
  intro k h
  unfold vIdx at h
  have hc := odd_codes t 1 0
  unfold oddCode at h
  split at h
  · cases h
  · injection h with h; omega
theorem vIdx_code (t : T) : errCode (vIdx t) = oddCode t := by
  have hc := odd_codes t 1 0
  unfold vIdx
  split
  · rename_i h; rw [h]; rfl
  · rename_i h
    unfold oddCode at *
    show (101 : Int) + (((odd t 1 0).1 - 101).toNat : Int) = _
    omega

theorem sents_errs {w : World} {ad : Nat → Addr} (hS : Sents w ad) : Errs w (ev (ad 11)) (ev (ad 3)) (ev (ad 4)) (ev (ad 2)) :=
  ⟨hS.var 11 (by omega), hS.var 3 (by omega), hS.var 4 (by omega), hS.var 2 (by omega)⟩
theorem ptrs_of (ad : Nat → Addr) : Ptrs (ev (ad 11)) (ev (ad 3)) (ev (ad 4)) (ev (ad 2)) := by
  intro c
  unfold errOf
  split
  · exact ⟨_, rfl⟩
  · split
    · exact ⟨_, rfl⟩
    · split <;> exact ⟨_, rfl⟩

theorem valid_any (ad : Nat → Addr) (t : T) (w : World) (lo hi : Nat) (v : Value) (hr : Rep w lo hi t v) (hhi : hi ≤ w.heap.size) (hS : Sents w ad) :
    Calls Tryd.prog 120 #[v] w fun e w' => e = .returned (errVal ad (vIdx t)) ∧ Below w.heap.size w w' := by
  have hcd := odd_codes t 1 0
  have e : errVal ad (vIdx t) = vRes (ev (ad 11)) (ev (ad 3)) (ev (ad 4)) (ev (ad 2)) t := by
    unfold vRes vIdx oddCode
    by_cases h0 : (odd t 1 0).1 = 0
    · rw [if_pos h0, if_pos h0]; rfl
    · rw [if_neg h0, if_neg h0]
      unfold errOf
      rcases hcd with h | h | h | h | h
      · exact absurd h h0
      all_goals rw [h]; rfl
  rw [e]
  exact validE_any _ _ _ _ (ptrs_of ad) t w lo hi v hr hhi (sents_errs hS)

end Go.Proofs.YtelnakmlfpjeoaaDoor
