/- The walk of the statement on what is right: whatever the value, it answers true. -/
import Derived.Test.YtaogcllghlgbiaaDoorValid
import Derived.Test.YtaogcllghlgbiaaDoorRight
namespace Go.Proofs.YtaogcllghlgbiaaDoor
open Go.RowKit

theorem sz_of_right (t : T) : (odd t 1 0).1 = 0 → sz t ≤ 4096 := by
  intro h0
  have hk : ∀ (t : T) (d z : Int), (odd t d z).1 = 0 → (odd t d z).2 = z + sz t := by
    refine T.ind_ (fun k n s l ih d z h => ?_)
    have hall : ∀ (l : List T), (∀ t ∈ l, ∀ (d z : Int), (odd t d z).1 = 0 → (odd t d z).2 = z + sz t) → ∀ (d z : Int), (oddAll l d z).1 = 0 → (oddAll l d z).2 = z + szAll l := by
      intro l
      induction l with
      | nil => intro _ d z _; simp [oddAll, szAll]
      | cons x r ihr =>
        intro hx d z h
        rw [oddAll] at h ⊢
        by_cases hc : (odd x d z).1 ≠ 0
        · rw [if_pos hc] at h; exact absurd h hc
        · rw [if_neg hc] at h ⊢
          have h1 := hx x (by simp) d z (by omega)
          have h2 := ihr (fun t ht => hx t (by simp [ht])) d _ h
          rw [h2, h1, szAll]; omega
    by_cases hd : 40 < d
    · rw [odd] at h; simp [hd] at h
    by_cases h4 : 4096 < zz k s z
    · rw [odd_104 (by omega) h4] at h; simp at h
    cases hr : badRange k n with
    | true => rw [odd_105 (by omega) (by omega) hr] at h; simp at h
    | false =>
      cases hs : badShape k n s l.length with
      | true => rw [odd_103 (by omega) (by omega) hr hs] at h; simp at h
      | false =>
        rw [odd_fine (by omega) (by omega) hr hs] at h ⊢
        rw [hall l ih (d + 1) _ h, sz]
        unfold zz
        split <;> omega
  have h1 := hk t 1 0 h0
  have h2 := odd_bound t 1 0 h0
  omega

theorem small_of_right (t : T) (h : vIdx t = none) : 0 ≤ fewT t 6000 0 := by
  have h0 : (odd t 1 0).1 = 0 := by
    unfold vIdx oddCode at h
    split at h
    · assumption
    · cases h
  have h1 := sz_of_right t h0
  have h2 := few_right t 1 0 6000 h0 (by omega)
  have e : (1 : Int) - 1 = 0 := by omega
  rw [e] at h2
  omega

set_option maxHeartbeats 2000000 in
theorem lawValid_heavy (ad : Nat → Addr) (t : T) (w : World) (lo hi : Nat) (v : Value) (hr : Rep w lo hi t v) (hhi : hi ≤ w.heap.size) (hS : Sents w ad) (hl : ¬ 0 ≤ fewT t 6000 0) :
    Calls Tryd.prog 3 #[v] w fun e w' => e = .returned (.bool true) ∧ Below w.heap.size w w' := by
  obtain ⟨k, hk⟩ : ∃ k, vIdx t = some k := by
    cases h : vIdx t with
    | none => exact absurd (small_of_right t h) hl
    | some k => exact ⟨k, rfl⟩
  have HK := Lib.hid (show errVal ad (vIdx t) = .iface 78 (.pointer (some (ad k))) from by rw [hk]; rfl)
  have HF := Lib.hid (decide_eq_false hl)
  have HS : ∀ W', Below w.heap.size w W' → Hid (Sents W' ad) := fun W' hb => hS.below hb
  have HR := Lib.hid hr
  obtain ⟨kk, n, s, p, len, cap, rfl⟩ := rep_form hr
  clear hS hr hl hk
  go_enter Tryd.func3, Tryd.ntmps3
  go_wp2_with (first
    | (go_at_call 6; refine (first_any _).mono ?_; rintro e w1 ⟨rfl, hb1⟩; obtain ⟨hx0, hx1, hx2, hx3, _⟩ := box4_in w1 w.heap.size _ _ _ _ _ (heap_old (heap_alloc_new w _) hb1); have hz1 := hb1.size; rw [World.size_alloc] at hz1; have hW1 := ((Below.refl w.heap.size w).alloc (Nat.le_refl _) _).trans (hb1.mono (by simp)))
    | (go_at_call 7; refine (small_any t _ lo hi _ (HR.out.below hW1 hhi) (by omega)).mono ?_; rintro e w2 ⟨rfl, hb2⟩; rw [HF.out]; have hz2 := hb2.size; have hx0 := (hb2.cell (p := ⟨w.heap.size, 0, none⟩) hz1).trans hx0; have hx1 := (hb2.cell (p := ⟨w.heap.size, 1, none⟩) hz1).trans hx1; have hx2 := (hb2.cell (p := ⟨w.heap.size, 2, none⟩) hz1).trans hx2; have hx3 := (hb2.cell (p := ⟨w.heap.size, 3, none⟩) hz1).trans hx3; have hW1 := hW1.trans (hb2.mono (by omega)); have hz1 := Nat.lt_of_lt_of_le hz1 hz2)
    | (go_at_call 8; refine (valid_any ad t _ lo hi _ (HR.out.below hW1 hhi) (by omega) (HS _ hW1).out).mono ?_; rintro e w4 ⟨rfl, hb4⟩; rw [HK.out]))
  go_ret
  exact ⟨rfl, hW1.trans (hb4.mono hW1.size)⟩

set_option maxHeartbeats 2000000 in
theorem lawValid_light (ad : Nat → Addr) (t : T) (w : World) (lo hi : Nat) (v : Value) (hr : Rep w lo hi t v) (hhi : hi ≤ w.heap.size) (hS : Sents w ad) (hl : 0 ≤ fewT t 6000 0) :
    Calls Tryd.prog 3 #[v] w fun e w' => e = .returned (.bool true) ∧ Below w.heap.size w w' := by
  have HF := Lib.hid (decide_eq_true hl)
  have HS : ∀ W', Below w.heap.size w W' → Hid (Sents W' ad) := fun W' hb => hS.below hb
  have HR := Lib.hid hr
  have HT := Lib.hid (show (errCode (vIdx t) == oddCode t) = true from by rw [vIdx_code]; simp)
  obtain ⟨kk, n, s, p, len, cap, rfl⟩ := rep_form hr
  clear hS hr hl
  go_enter Tryd.func3, Tryd.ntmps3
  go_wp2_with (first
    | (go_at_call 6; refine (first_any _).mono ?_; rintro e w1 ⟨rfl, hb1⟩; obtain ⟨hx0, hx1, hx2, hx3, _⟩ := box4_in w1 w.heap.size _ _ _ _ _ (heap_old (heap_alloc_new w _) hb1); have hz1 := hb1.size; rw [World.size_alloc] at hz1; have hW1 := ((Below.refl w.heap.size w).alloc (Nat.le_refl _) _).trans (hb1.mono (by simp)))
    | (go_at_call 7; refine (small_any t _ lo hi _ (HR.out.below hW1 hhi) (by omega)).mono ?_; rintro e w2 ⟨rfl, hb2⟩; rw [HF.out]; have hz2 := hb2.size; have hy0 := (hb2.cell (p := ⟨w.heap.size, 0, none⟩) hz1).trans hx0; have hy1 := (hb2.cell (p := ⟨w.heap.size, 1, none⟩) hz1).trans hx1; have hy2 := (hb2.cell (p := ⟨w.heap.size, 2, none⟩) hz1).trans hx2; have hy3 := (hb2.cell (p := ⟨w.heap.size, 3, none⟩) hz1).trans hx3; have hW2 := hW1.trans (hb2.mono (by omega)); have hz3 := Nat.lt_of_lt_of_le hz1 hz2))
  have hwd : w.heap.size ≤ w2.heap.size := by omega
  go_region_held3 (fun w' => w'.cell? ⟨w.heap.size, 0, none⟩ = some (.int .i64 kk) ∧ w'.cell? ⟨w.heap.size, 1, none⟩ = some (.int .i64 n) ∧ w'.cell? ⟨w.heap.size, 2, none⟩ = some (.string s) ∧ w'.cell? ⟨w.heap.size, 3, none⟩ = some (.slice p len cap))
    (first | exact ⟨hy0, hy1, hy2, hy3⟩ | exact ⟨hu0, hu1, hu2, hu3⟩ | exact ⟨hv0, hv1, hv2, hv3⟩ | exact ⟨hq0, hq1, hq2, hq3⟩ | (go_show; fail))
    (first
      | (go_at_call 8; refine (valid_any ad t _ lo hi _ (HR.out.below hW2.drew hhi) (by simp; omega) (HS _ hW2.drew).out).mono ?_; rintro e w4 ⟨rfl, hb4⟩; have hu0 := (hb4.cell (p := ⟨w.heap.size, 0, none⟩) hz3).trans hy0; have hu1 := (hb4.cell (p := ⟨w.heap.size, 1, none⟩) hz3).trans hy1; have hu2 := (hb4.cell (p := ⟨w.heap.size, 2, none⟩) hz3).trans hy2; have hu3 := (hb4.cell (p := ⟨w.heap.size, 3, none⟩) hz3).trans hy3; have hW4 := hW2.drew.trans (hb4.mono hwd); have hz4 : w.heap.size < w4.heap.size := (Nat.lt_of_lt_of_le hz3 hb4.size))
      | (go_at_call 10; refine (rvalid_any t _ lo hi _ (HR.out.below hW4 hhi) (by omega)).mono ?_; rintro e w5 ⟨rfl, hb5⟩; have hv0 := (hb5.cell (p := ⟨w.heap.size, 0, none⟩) hz4).trans hu0; have hv1 := (hb5.cell (p := ⟨w.heap.size, 1, none⟩) hz4).trans hu1; have hv2 := (hb5.cell (p := ⟨w.heap.size, 2, none⟩) hz4).trans hu2; have hv3 := (hb5.cell (p := ⟨w.heap.size, 3, none⟩) hz4).trans hu3; have hW5 := hW4.trans (hb5.mono (Nat.le_of_lt hz4)); have hz5 : w.heap.size < w5.heap.size := (Nat.lt_of_lt_of_le hz4 hb5.size))
      | (go_at_call 9; refine (is_any ad (vIdx t) (vIdx_lt t) _ _ (HS _ hW5).out).mono ?_; rintro e w6 ⟨rfl, hb6⟩; rw [HT.out]; have hq0 := (hb6.cell (p := ⟨w.heap.size, 0, none⟩) hz5).trans hv0; have hq1 := (hb6.cell (p := ⟨w.heap.size, 1, none⟩) hz5).trans hv1; have hq2 := (hb6.cell (p := ⟨w.heap.size, 2, none⟩) hz5).trans hv2; have hq3 := (hb6.cell (p := ⟨w.heap.size, 3, none⟩) hz5).trans hv3)
      | (go_show; fail))
  go_wp2
  go_ret
  exact ⟨rfl, hW5.trans (hb6.mono (Nat.le_of_lt hz5))⟩

theorem lawValid_all (ad : Nat → Addr) (t : T) (w : World) (lo hi : Nat) (v : Value) (hr : Rep w lo hi t v) (hhi : hi ≤ w.heap.size) (hS : Sents w ad) :
    Calls Tryd.prog 3 #[v] w fun e w' => e = .returned (.bool true) ∧ Below w.heap.size w w' := by
  by_cases hl : 0 ≤ fewT t 6000 0
  · exact lawValid_light ad t w lo hi v hr hhi hS hl
  · exact lawValid_heavy ad t w lo hi v hr hhi hS hl

end Go.Proofs.YtaogcllghlgbiaaDoor
