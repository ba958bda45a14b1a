/- The walk of the statement on copies: whatever the list and the place, it answers true. -/
import Derived.Test.YtaogcllghlgbiaaRight
import Derived.Test.YtaogcllghlgbiaaOrd
import Derived.Test.YtaogcllghlgbiaaCopy
import Derived.Test.YtaogcllghlgbiaaSameV
import Derived.Test.YtaogcllghlgbiaaFirst
namespace Go.Proofs.Ytaogcllghlgbiaa
open Go.RowKit

theorem fits_mkList (l : List T) (h : fits (mkList l) = 0) : dp (mkList l) ≤ 40 ∧ rsz (mkList l) ≤ 4096 := by
  unfold fits at h; split at h; omega; split at h; omega; omega

/-- A right value is no greater than the bound. -/
theorem right_sz : ∀ (t : T), rightB t = true → sz t ≤ 4096 := by
  intro t h
  have hk : ∀ (t : T) (d z : Int), (odd t d z).1 = 0 → (odd t d z).2 = z + sz t := by
    refine T.ind_ (fun k n s l ih d z h => ?_)
    have hall : ∀ (l : List T), (∀ t ∈ l, ∀ (d z : Int), (odd t d z).1 = 0 → (odd t d z).2 = z + sz t) → ∀ (d z : Int), (oddAll l d z).1 = 0 → (oddAll l d z).2 = z + szAll l := by
      intro l
      induction l with
      | nil => intro _ d z _; simp [oddAll, szAll]
      | cons x r ihr =>
        intro hx d z h
        rw [oddAll] at h ⊢
        by_cases hc : (odd x d z).1 ≠ 0
        · rw [if_pos hc] at h; exact absurd h hc
        · rw [if_neg hc] at h ⊢
          have h1 := hx x (by simp) d z (by omega)
          have h2 := ihr (fun t ht => hx t (by simp [ht])) d _ h
          rw [h2, h1, szAll]; omega
    by_cases hd : 40 < d
    · rw [odd] at h; simp [hd] at h
    by_cases h4 : 4096 < zz k s z
    · rw [odd_104 (by omega) h4] at h; simp at h
    cases hr : badRange k n with
    | true => rw [odd_105 (by omega) (by omega) hr] at h; simp at h
    | false =>
      cases hs : badShape k n s l.length with
      | true => rw [odd_103 (by omega) (by omega) hr hs] at h; simp at h
      | false =>
        rw [odd_fine (by omega) (by omega) hr hs] at h ⊢
        rw [hall l ih (d + 1) _ h, sz]
        unfold zz
        split <;> omega
  have h0 : (odd t 1 0).1 = 0 := by simpa [rightB, oddCode] using h
  have h1 := hk t 1 0 h0
  have h2 := odd_bound t 1 0 h0
  omega

theorem sz_mkList (l : List T) (h : fewRight l 20 = true) : sz (mkList l) ≤ 1000000 ∧ l.length ≤ 20 := by
  unfold fewRight at h
  rw [Bool.and_eq_true] at h
  obtain ⟨h1, h2⟩ := h
  have h1 : (l.length : Int) ≤ 20 := by simpa using h1
  have hb : ∀ (l : List T), allRight l = true → szAll l ≤ 4096 * l.length := by
    intro l
    induction l with
    | nil => intro _; simp [szAll]
    | cons x r ih =>
      intro h
      unfold allRight at h
      rw [List.all_cons, Bool.and_eq_true] at h
      have h1 := right_sz x h.1
      have h2 := ih h.2
      simp only [szAll, List.length_cons]; omega
  have := hb l h2
  refine ⟨?_, by omega⟩
  rw [mkList, sz, if_neg (by omega)]
  omega

set_option maxHeartbeats 1000000 in
theorem copies_few (l : List T) (at_ : Int) (w : World) (lo hi : Nat) (p : Option Addr) (cap : Nat) (hall : RepAll w lo hi l p) (hlc : l.length ≤ cap) (hcap : cap * 56 ≤ 140737488355328) (hhi : hi ≤ w.heap.size) (h : fewRight l 20 = false) :
    Calls Try.prog 3 #[.slice p l.length cap, .int .i64 at_] w fun e w' => e = .returned (.bool true) ∧ Below w.heap.size w w' := by
  have H := Lib.hid h; clear h
  go_enter Try.func3, Try.ntmps3
  go_wp2_with (first
    | (go_at_call 4; refine (first_any _).mono ?_; rintro e w1 ⟨rfl, hb1⟩)
    | (go_at_call 5; refine (wvalues_any l _ lo hi p cap 20 (hall.below hb1 hhi) (by have := hb1.size; omega) (by omega)).mono ?_; rintro e w2 ⟨rfl, hb2⟩; rw [H.out]))
  go_ret
  exact ⟨rfl, hb1.trans (hb2.mono hb1.size)⟩

set_option maxHeartbeats 1000000 in
theorem copies_nil (at_ : Int) (w : World) (p : Option Addr) (cap : Nat) :
    Calls Try.prog 3 #[.slice p 0 cap, .int .i64 at_] w fun e w' => e = .returned (.bool true) ∧ Below w.heap.size w w' := by
  have hf : fewRight [] 20 = true := rfl
  have H := Lib.hid hf; clear hf
  go_enter Try.func3, Try.ntmps3
  go_wp2_with (first
    | (go_at_call 4; refine (first_any _).mono ?_; rintro e w1 ⟨rfl, hb1⟩)
    | (go_at_call 5; refine (wvalues_any [] _ 0 0 p cap 20 (by unfold RepAll; trivial) (by omega) (by simp)).mono ?_; rintro e w2 ⟨rfl, hb2⟩; rw [H.out]))
  go_ret
  exact ⟨rfl, hb1.trans (hb2.mono hb1.size)⟩

set_option maxHeartbeats 1000000 in
theorem copies_great (l : List T) (at_ : Int) (w : World) (lo hi : Nat) (p : Option Addr) (cap : Nat) (hall : RepAll w lo hi l p) (hlc : l.length ≤ cap) (hcap : cap * 56 ≤ 140737488355328) (hhi : hi ≤ w.heap.size) (h : fewRight l 20 = true) (hpos : 0 < l.length) (hfit : fits (mkList l) ≠ 0) :
    Calls Try.prog 3 #[.slice p l.length cap, .int .i64 at_] w fun e w' => e = .returned (.bool true) ∧ Below w.heap.size w w' := by
  obtain ⟨hsz, hl20⟩ := sz_mkList l h
  have H := Lib.hid h; clear h
  have hF : (fits (mkList l) != 0) = true := by simpa using hfit
  have hl0 : ((l.length : Int) == 0) = false := beq_eq_false_iff_ne.2 (by omega)
  go_enter Try.func3, Try.ntmps3
  go_wp2_with (first
    | (go_at_call 4; refine (first_any _).mono ?_; rintro e w1 ⟨rfl, hb1⟩)
    | (go_at_call 5; refine (wvalues_any l _ lo hi p cap 20 (hall.below hb1 hhi) (by have := hb1.size; omega) (by omega)).mono ?_; rintro e w2 ⟨rfl, hb2⟩; rw [H.out]; have hb12 := hb1.trans (hb2.mono hb1.size); have hz2 := hb12.size)
    | (go_at_call 7; refine (rL_any l _ lo hi p cap (hall.below hb12 hhi) hlc hcap (by omega)).mono ?_; rintro e w3 ⟨v3, rfl, hv3, hb3⟩; have HV3 := Lib.hid hv3; clear hv3)
    | (go_at_call 6; refine (fits_any (mkList l) _ _ _ _ HV3.out (Nat.le_refl _) hsz).mono ?_; rintro e w4 ⟨rfl, hb4⟩))
  go_ret
  exact ⟨rfl, (hb12.trans (hb3.mono hz2)).trans (hb4.mono (by have := hb3.size; omega))⟩

end Go.Proofs.Ytaogcllghlgbiaa
