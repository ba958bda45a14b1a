/- val.Valid: the error that the document asks, by the four variables that it can come from. -/
import Derived.Test.YtminmadaeaiihaaDoorWalk2
namespace Go.Proofs.YtminmadaeaiihaaDoor
open Go.RowKit

theorem oddAll_codes (l : List T) (h : ∀ t ∈ l, ∀ d z, (odd t d z).1 = 0 ∨ (odd t d z).1 = 103 ∨ (odd t d z).1 = 104 ∨ (odd t d z).1 = 105 ∨ (odd t d z).1 = 112) (d z : Int) :
    (oddAll l d z).1 = 0 ∨ (oddAll l d z).1 = 103 ∨ (oddAll l d z).1 = 104 ∨ (oddAll l d z).1 = 105 ∨ (oddAll l d z).1 = 112 := by
  induction l generalizing z with
  | nil => left; simp [oddAll]
  | cons x r ih =>
    rw [oddAll]
    split
    · exact h x (by simp) d z
    · exact ih (fun t ht => h t (by simp [ht])) _
theorem odd_codes : ∀ (t : T) (d z : Int), (odd t d z).1 = 0 ∨ (odd t d z).1 = 103 ∨ (odd t d z).1 = 104 ∨ (odd t d z).1 = 105 ∨ (odd t d z).1 = 112 := by
  refine T.ind_ (fun k n s l ih d z => ?_)
  by_cases hd : 40 < d
  · rw [odd]; simp [hd]
  by_cases h4 : 4096 < zz k s z
  · rw [odd_104 (by omega) h4]; simp
  cases hr : badRange k n with
  | true => rw [odd_105 (by omega) (by omega) hr]; simp
  | false =>
    cases hs : badShape k n s l.length with
    | true => rw [odd_103 (by omega) (by omega) hr hs]; simp
    | false => rw [odd_fine (by omega) (by omega) hr hs]; exact oddAll_codes l ih _ _

/-- What val.Valid answers. -/
def vRes (eD eM eR eS : Value) (t : T) : Value := if (odd t 1 0).1 = 0 then .nilIface else errOf eD eM eR eS (odd t 1 0).1

set_option maxHeartbeats 1000000 in
theorem validE_any (eD eM eR eS : Value) (hP : Ptrs eD eM eR eS) (t : T) (w : World) (lo hi : Nat) (v : Value) (hr : Rep w lo hi t v) (hhi : hi ≤ w.heap.size) (he : Errs w eD eM eR eS) :
    Calls Tryd.prog 100 #[v] w fun e w' => e = .returned (vRes eD eM eR eS t) ∧ Below w.heap.size w w' := by
  have h4 := he.size
  have HE := Lib.hid he; clear he
  obtain ⟨k, n, s, p, len, cap, rfl⟩ := rep_form hr
  obtain ⟨pc, hpc⟩ := hP (odd t 1 0).1
  have HV : Hid (∃ x y, WalkRes eD eM eR eS (odd t 1 0) = .tuple #[.int .i64 x, y] ∧ vRes eD eM eR eS t = y ∧ (y = .nilIface ∨ ∃ a, y = .iface 179 (.pointer (some a)))) := by
    unfold WalkRes vRes
    by_cases h0 : (odd t 1 0).1 = 0
    · rw [if_pos h0, if_pos h0]; exact ⟨_, _, rfl, rfl, .inl rfl⟩
    · rw [if_neg h0, if_neg h0]; exact ⟨_, _, rfl, rfl, .inr ⟨pc, hpc⟩⟩
  clear hpc
  obtain ⟨x, y, hxy, hy, hyf⟩ := HV.out
  have HXY := Lib.hid hxy
  have HY := Lib.hid hy
  clear hxy hy HV
  rcases hyf with rfl | ⟨a, rfl⟩
  all_goals
    go_enter Tryd.func100, Tryd.ntmps100
    go_wp2_with (go_at_call 130; refine (walk_all _ _ _ _ hP t _ lo hi _ 1 0 (hr.alloc hhi _) (by simp; omega) (HE.out.below ((Below.refl w.heap.size w).alloc (Nat.le_refl _) _) h4) (by simp; omega) (by omega) (by omega) (by omega) (by omega)).mono ?_; rintro e w2 ⟨rfl, hb2⟩; rw [HXY.out])
    go_ret
    exact ⟨by rw [HY.out]; rfl, ((Below.refl _ _).alloc (Nat.le_refl _) _).trans (hb2.mono (by simp))⟩

end Go.Proofs.YtminmadaeaiihaaDoor
