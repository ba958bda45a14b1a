/- Which values are right, as the statements ask. -/
import Derived.Test.YtcecgfijfnnpeaaDoorOdd2
namespace Go.Proofs.YtcecgfijfnnpeaaDoor
open Go.RowKit

set_option maxHeartbeats 1000000 in
theorem right_any (t : T) (w : World) (lo hi : Nat) (v : Value) (hr : Rep w lo hi t v) (hhi : hi ≤ w.heap.size) :
    Calls Tryd.prog 46 #[v] w fun e w' => e = .returned (.bool (rightB t)) ∧ Below w.heap.size w w' := by
  obtain ⟨k, n, s, p, len, cap, rfl⟩ := rep_form hr
  go_enter Tryd.func46, Tryd.ntmps46
  go_wp2_with (go_at_call 62; refine (rvalid_any t _ lo hi _ (hr.alloc hhi _) (by simp; omega)).mono ?_; rintro e w2 ⟨rfl, hb2⟩)
  go_ret
  exact ⟨rfl, ((Below.refl _ _).alloc (Nat.le_refl _) _).trans (hb2.mono (by simp))⟩

def allRight (l : List T) : Bool := l.all rightB
theorem allRight_drop (l : List T) (j : Nat) (h : j < l.length) : allRight (l.drop j) = (rightB l[j] && allRight (l.drop (j + 1))) := by
  unfold allRight; rw [List.drop_eq_getElem_cons h]; rfl

def fewRight (l : List T) (most : Int) : Bool := decide ((l.length : Int) ≤ most) && allRight l

end Go.Proofs.YtcecgfijfnnpeaaDoor
