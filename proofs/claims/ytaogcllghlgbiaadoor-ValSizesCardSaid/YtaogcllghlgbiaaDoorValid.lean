/- val.Valid: the error that the document asks. -/
import Derived.Test.YtaogcllghlgbiaaDoorWalk2
import Derived.Test.YtaogcllghlgbiaaDoorSee2
import Derived.Test.YtaogcllghlgbiaaDoorFew
import Derived.Test.YtaogcllghlgbiaaDoorFirst
namespace Go.Proofs.YtaogcllghlgbiaaDoor
open Go.RowKit

theorem oddAll_codes (l : List T) (h : ∀ t ∈ l, ∀ d z, (odd t d z).1 = 0 ∨ (odd t d z).1 = 103 ∨ (odd t d z).1 = 104 ∨ (odd t d z).1 = 105 ∨ (odd t d z).1 = 112) (d z : Int) :
    (oddAll l d z).1 = 0 ∨ (oddAll l d z).1 = 103 ∨ (oddAll l d z).1 = 104 ∨ (oddAll l d z).1 = 105 ∨ (oddAll l d z).1 = 112 := by
  induction l generalizing z with
  | nil => left; simp [oddAll]
  | cons x r ih =>
    rw [oddAll]
    split
    · exact h x (by simp) d z
    · exact ih (fun t ht => h t (by simp [ht])) _
theorem odd_codes : ∀ (t : T) (d z : Int), (odd t d z).1 = 0 ∨ (odd t d z).1 = 103 ∨ (odd t d z).1 = 104 ∨ (odd t d z).1 = 105 ∨ (odd t d z).1 = 112 := by
  refine T.ind_ (fun k n s l ih d z => ?_)
  by_cases hd : 40 < d
  · rw [odd]; simp [hd]
  by_cases h4 : 4096 < zz k s z
  · rw [odd_104 (by omega) h4]; simp
  cases hr : badRange k n with
  | true => rw [odd_105 (by omega) (by omega) hr]; simp
  | false =>
    cases hs : badShape k n s l.length with
    | true => rw [odd_103 (by omega) (by omega) hr hs]; simp
    | false => rw [odd_fine (by omega) (by omega) hr hs]; exact oddAll_codes l ih _ _

/-- Which of api's errors val.Valid answers. -/
def vIdx (t : T) : Option Nat := if oddCode t = 0 then none else some (oddCode t - 101).toNat
theorem vIdx_lt (t : T) : ∀ k, vIdx t = some k → k < 17 := by
  intro k h
  unfold vIdx at h
  have hc := odd_codes t 1 0
  unfold oddCode at h
  split at h
  · cases h
  · injection h with h; omega
theorem vIdx_code (t : T) : errCode (vIdx t) = oddCode t := by
  have hc := odd_codes t 1 0
  unfold vIdx
  split
  · rename_i h; rw [h]; rfl
  · rename_i h
    unfold oddCode at *
    show (101 : Int) + (((odd t 1 0).1 - 101).toNat : Int) = _
    omega

theorem sents_errs {w : World} {ad : Nat → Addr} (hS : Sents w ad) : Errs w (ev (ad 11)) (ev (ad 3)) (ev (ad 4)) (ev (ad 2)) :=
  ⟨hS.var 11 (by omega), hS.var 3 (by omega), hS.var 4 (by omega), hS.var 2 (by omega)⟩
theorem sents_size {w : World} {ad : Nat → Addr} (hS : Sents w ad) : 4 ≤ w.heap.size := by
  have h := World.block_lt_of_cell? w _ (hS.var 16 (by omega))
  have e : gOf 16 = 17 := rfl
  simp only [e] at h
  omega
theorem ptrs_of (ad : Nat → Addr) : Ptrs (ev (ad 11)) (ev (ad 3)) (ev (ad 4)) (ev (ad 2)) := by
  intro c
  unfold errOf
  split
  · exact ⟨_, rfl⟩
  · split
    · exact ⟨_, rfl⟩
    · split <;> exact ⟨_, rfl⟩

set_option maxHeartbeats 1000000 in
theorem valid_any (ad : Nat → Addr) (t : T) (w : World) (lo hi : Nat) (v : Value) (hr : Rep w lo hi t v) (hhi : hi ≤ w.heap.size) (hS : Sents w ad) :
    Calls Tryd.prog 8 #[v] w fun e w' => e = .returned (errVal ad (vIdx t)) ∧ Below w.heap.size w w' := by
  have h4 := sents_size hS
  have HE := Lib.hid (sents_errs hS)
  obtain ⟨k, n, s, p, len, cap, rfl⟩ := rep_form hr
  have hcd := odd_codes t 1 0
  have HV : Hid (∃ x y, WalkRes (ev (ad 11)) (ev (ad 3)) (ev (ad 4)) (ev (ad 2)) (odd t 1 0) = .tuple #[.int .i64 x, y] ∧ errVal ad (vIdx t) = y) := by
    unfold WalkRes vIdx oddCode
    by_cases h0 : (odd t 1 0).1 = 0
    · rw [if_pos h0, if_pos h0]; exact ⟨_, _, rfl, rfl⟩
    · rw [if_neg h0, if_neg h0]
      refine ⟨_, _, rfl, ?_⟩
      unfold errOf
      rcases hcd with h | h | h | h | h
      · exact absurd h h0
      all_goals rw [h]; rfl
  clear hcd
  obtain ⟨x, y, hxy, hy⟩ := HV.out
  have HXY := Lib.hid hxy
  have HY := Lib.hid hy
  clear hxy hy HV
  go_enter Tryd.func8, Tryd.ntmps8
  go_wp2_with (go_at_call 23; refine (walk_all _ _ _ _ (ptrs_of ad) t _ lo hi _ 1 0 (hr.alloc hhi _) (by simp; omega) (HE.out.below ((Below.refl w.heap.size w).alloc (Nat.le_refl _) _) h4) (by simp; omega) (by omega) (by omega) (by omega) (by omega)).mono ?_; rintro e w2 ⟨rfl, hb2⟩; rw [HXY.out])
  go_ret
  exact ⟨by rw [HY.out]; rfl, ((Below.refl _ _).alloc (Nat.le_refl _) _).trans (hb2.mono (by simp))⟩

/-- What is right is light. -/
theorem few_right : ∀ (t : T) (d z y : Int), (odd t d z).1 = 0 → sz t ≤ y → y - sz t ≤ fewT t y (d - 1) := by
  refine T.ind_ (fun k n s l ih d z y h hy => ?_)
  have hall : ∀ (l : List T), (∀ t ∈ l, ∀ (d z y : Int), (odd t d z).1 = 0 → sz t ≤ y → y - sz t ≤ fewT t y (d - 1)) → ∀ (d z y : Int), (oddAll l d z).1 = 0 → szAll l ≤ y → y - szAll l ≤ fewAll l y (d - 1) := by
    intro l
    induction l with
    | nil => intro _ d z y _ _; rw [fewAll, szAll]; omega
    | cons x r ihr =>
      intro hx d z y h hy
      have hp := sz_pos x
      have hn := szAll_nonneg r
      rw [szAll] at hy ⊢
      rw [oddAll] at h
      by_cases hc : (odd x d z).1 ≠ 0
      · rw [if_pos hc] at h; exact absurd h hc
      · rw [if_neg hc] at h
        have h1 := hx x (by simp) d z y (by omega) (by omega)
        rw [fewAll, if_neg (by omega)]
        have h2 := ihr (fun t ht => hx t (by simp [ht])) d _ (fewT x y (d - 1)) h (by omega)
        omega
  by_cases hd : 40 < d
  · rw [odd] at h; simp [hd] at h
  by_cases h4 : 4096 < zz k s z
  · rw [odd_104 (by omega) h4] at h; simp at h
  cases hr : badRange k n with
  | true => rw [odd_105 (by omega) (by omega) hr] at h; simp at h
  | false =>
    cases hs : badShape k n s l.length with
    | true => rw [odd_103 (by omega) (by omega) hr hs] at h; simp at h
    | false =>
      rw [odd_fine (by omega) (by omega) hr hs] at h
      have hn := szAll_nonneg l
      have he := sz_eq k n s l
      have hsz : 1 + (s.size : Int) / 16 ≤ szAlone (.mk k n s []) := by
        by_cases hk : k = 2
        · simp [szAlone, hk]; omega
        · rcases Nat.eq_zero_or_pos s.size with h0 | h0
          · rw [h0]; simp [szAlone, hk]
          · have a : (k != 2) = true := by simpa using hk
            have b : (s.size != 0) = true := bne_iff_ne.2 (by omega)
            unfold badShape at hs
            rw [a, b] at hs
            simp at hs
      rw [fewT, if_neg (by omega)]
      have e : d + 1 - 1 = d - 1 + 1 := by omega
      have h2 := hall l ih (d + 1) _ (y - 1 - (s.size : Int) / 16) h (by omega)
      rw [e] at h2
      omega

end Go.Proofs.YtaogcllghlgbiaaDoor
