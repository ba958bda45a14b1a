/- val.Valid: the error that the document asks. -/
import Derived.Test.YtminmadaeaiihaaDoorValidE
import Derived.Test.YtminmadaeaiihaaDoorSee2
import Derived.Test.YtminmadaeaiihaaDoorFirst
namespace Go.Proofs.YtminmadaeaiihaaDoor
open Go.RowKit

/-- Which of api's errors val.Valid answers. -/
def vIdx (t : T) : Option Nat := if oddCode t = 0 then none else some (oddCode t - 101).toNat
theorem vIdx_lt (t : T) : ∀ k, vIdx t = some k → k < 17 := by
  intro k h
  unfold vIdx at h
  have hc := odd_codes t 1 0
  unfold oddCode at h
  split at h
  · cases h
  · injection h with h; omega
theorem vIdx_code (t : T) : errCode (vIdx t) = oddCode t := by
  have hc := odd_codes t 1 0
  unfold vIdx
  split
  · rename_i h; rw [h]; rfl
  · rename_i h
    unfold oddCode at *
    show (101 : Int) + (((odd t 1 0).1 - 101).toNat : Int) = _
    omega

theorem ptrs_of (ad : Nat → Addr) : Ptrs (ev (ad 11)) (ev (ad 3)) (ev (ad 4)) (ev (ad 2)) := by
  intro c
  unfold errOf
  split
  · exact ⟨_, rfl⟩
  · split
    · exact ⟨_, rfl⟩
    · split <;> exact ⟨_, rfl⟩

end Go.Proofs.YtminmadaeaiihaaDoor
