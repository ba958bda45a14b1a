/- Contracts of the document's depth and size, and of what fits. -/
import Derived.Test.YtjipchloebbldaaSmall
namespace Go.Proofs.Ytjipchloebbldaa
open Go.RowKit

set_option maxHeartbeats 400000 in
theorem rdeep_any : ∀ (t : T) (w : World) (lo hi : Nat) (v : Value), Rep w lo hi t v → hi ≤ w.heap.size → dp t ≤ 1000000 →
    Calls Try.prog 57 #[v] w fun e w' => e = .returned (.int .i64 (dp t)) ∧ Below w.heap.size w w' := by
  refine T.ind_ (fun k n s l ih w lo hi v hr hhi hsz => ?_)
  unfold Rep at hr
  obtain ⟨p, cap, rfl, hk, hn, hs, hlc, hcap, hall⟩ := hr
  have H := Lib.hid ih; clear ih
  by_cases hk4 : k = 4
  · subst hk4
    have hE : dp (.mk 4 n s l) = dpAll l + 1 := by simp [dp]
    have hNN := dpAll_nonneg l
    go_enter Try.func57, Try.ntmps57
    go_wp2
    have hb4 := (box4 w (.int .i64 4) (.int .i64 n) (.string s) (.slice p l.length cap) 24).2.2.2
    generalize hW1 : w.alloc (.cells #[.int .i64 4, .int .i64 n, .string s, .slice p l.length cap] 24) = W1 at hb4
    have hWb : Below w.heap.size w W1 := by subst hW1; exact (Below.refl _ _).alloc (Nat.le_refl _) _
    have hWs : W1.heap.size = w.heap.size + 1 := by subst hW1; simp
    clear hW1
    go_loopw [3, 4] (fun v i wr => ∃ j : Nat, j ≤ l.length ∧ i = .int .i64 j ∧ v = .int .i64 (dpAll (l.take j)) ∧ Below W1.heap.size W1 wr) (fun _ i _ => l.length - (intOf i).toNat)
    case atStart => exact ⟨0, Nat.zero_le _, rfl, by simp [dpAll], Below.refl _ _⟩
    case round =>
      obtain ⟨j, hj, rfl, rfl, hbr⟩ := hrel
      have hbox : wr.cell? ⟨w.heap.size, 3, none⟩ = some (.slice p l.length cap) := (hbr.cell (p := ⟨w.heap.size, 3, none⟩) (by rw [hWs]; exact Nat.lt_succ_self _)).trans hb4
      have hz := hbr.size
      by_cases hlt : j < l.length
      · obtain ⟨b, off, k1, n1, s1, l1, q1, cc1, rfl, _, hbhi, hli, h0, h1, h2, h3, hrep⟩ := (hall.below (hWb.trans (hbr.mono (by omega))) hhi).item j hlt
        have hA := dpAll_split l j hlt
        have hB := dpAll_take_le l (j + 1)
        have hC := dpAll_nonneg (l.take j)
        have hD := dp_pos l[j]
        rw [hli] at hA hD
        have hlj : l[j] ∈ l := List.getElem_mem hlt
        rw [hli] at hlj hrep
        clear hli hWb
        go_wp2_with (go_at_call 57; refine (H.out _ hlj _ lo hi _ (hrep) (by omega) (by omega)).mono ?_; rintro e w2 ⟨rfl, hb2⟩; obtain ⟨hc2, hf2⟩ := below_bcell hb2)
        go_roundw
        case rel =>
          refine ⟨j + 1, by omega, by go_num, ?_, hbr.trans (hb2.mono (by omega))⟩
          rw [hA]; congr 1; split <;> omega
        case measure => simp [intOf]; omega
      · have hjl : j = l.length := by omega
        subst hjl
        go_wp2
        go_ret
        refine ⟨ret_int ?_, hWb.trans (hbr.mono (by omega))⟩
        first | exact hE.symm | (rw [List.take_length]; exact hE.symm)
  · have hE : dp (.mk k n s l) = 1 := by simp [dp, hk4]
    have hk4' : (k == 4) = false := by simpa using hk4
    go_enter Try.func57, Try.ntmps57
    go_wp2
    go_ret
    exact ⟨ret_int hE.symm, by go_grown⟩

set_option maxHeartbeats 400000 in
theorem rsize_any : ∀ (t : T) (w : World) (lo hi : Nat) (v : Value), Rep w lo hi t v → hi ≤ w.heap.size → rsz t ≤ 1000000 →
    Calls Try.prog 58 #[v] w fun e w' => e = .returned (.int .i64 (rsz t)) ∧ Below w.heap.size w w' := by
  refine T.ind_ (fun k n s l ih w lo hi v hr hhi hsz => ?_)
  unfold Rep at hr
  obtain ⟨p, cap, rfl, hk, hn, hs, hlc, hcap, hall⟩ := hr
  have H := Lib.hid ih; clear ih
  by_cases hk2 : k = 2
  · subst hk2
    have hE : rsz (.mk 2 n s l) = 1 + (s.size : Int) := by simp [rsz]
    go_enter Try.func58, Try.ntmps58
    go_wp2
    go_ret
    exact ⟨ret_int (by rw [hE]), by go_grown⟩
  by_cases hk4 : k = 4
  · subst hk4
    have hE : rsz (.mk 4 n s l) = 1 + rszAll l := by simp [rsz]
    have hNN := rszAll_nonneg l
    go_enter Try.func58, Try.ntmps58
    go_wp2
    have hb4 := (box4 w (.int .i64 4) (.int .i64 n) (.string s) (.slice p l.length cap) 24).2.2.2
    generalize hW1 : w.alloc (.cells #[.int .i64 4, .int .i64 n, .string s, .slice p l.length cap] 24) = W1 at hb4
    have hWb : Below w.heap.size w W1 := by subst hW1; exact (Below.refl _ _).alloc (Nat.le_refl _) _
    have hWs : W1.heap.size = w.heap.size + 1 := by subst hW1; simp
    clear hW1
    go_loopw [3, 4] (fun v i wr => ∃ j : Nat, j ≤ l.length ∧ i = .int .i64 j ∧ v = .int .i64 (1 + rszAll (l.take j)) ∧ Below W1.heap.size W1 wr) (fun _ i _ => l.length - (intOf i).toNat)
    case atStart => exact ⟨0, Nat.zero_le _, rfl, by simp [rszAll], Below.refl _ _⟩
    case round =>
      obtain ⟨j, hj, rfl, rfl, hbr⟩ := hrel
      have hbox : wr.cell? ⟨w.heap.size, 3, none⟩ = some (.slice p l.length cap) := (hbr.cell (p := ⟨w.heap.size, 3, none⟩) (by rw [hWs]; exact Nat.lt_succ_self _)).trans hb4
      have hz := hbr.size
      by_cases hlt : j < l.length
      · obtain ⟨b, off, k1, n1, s1, l1, q1, cc1, rfl, _, hbhi, hli, h0, h1, h2, h3, hrep⟩ := (hall.below (hWb.trans (hbr.mono (by omega))) hhi).item j hlt
        have hA := rszAll_split l j hlt
        have hB := rszAll_take_le l (j + 1)
        have hC := rszAll_nonneg (l.take j)
        have hD := rsz_pos l[j]
        rw [hli] at hA hD
        have hlj : l[j] ∈ l := List.getElem_mem hlt
        rw [hli] at hlj hrep
        clear hli hWb
        go_wp2_with (go_at_call 58; refine (H.out _ hlj _ lo hi _ (hrep) (by omega) (by omega)).mono ?_; rintro e w2 ⟨rfl, hb2⟩; obtain ⟨hc2, hf2⟩ := below_bcell hb2)
        go_roundw
        case rel =>
          refine ⟨j + 1, by omega, by go_num, ?_, hbr.trans (hb2.mono (by omega))⟩
          rw [hA]; congr 1; omega
        case measure => simp [intOf]; omega
      · have hjl : j = l.length := by omega
        subst hjl
        go_wp2
        go_ret
        refine ⟨ret_int ?_, hWb.trans (hbr.mono (by omega))⟩
        first | exact hE.symm | (rw [List.take_length]; exact hE.symm)
  · have hE : rsz (.mk k n s l) = 1 := by simp [rsz, hk4, hk2]
    have hk4' : (k == 4) = false := by simpa using hk4
    have hk2' : (k == 2) = false := by simpa using hk2
    go_enter Try.func58, Try.ntmps58
    go_wp2
    go_ret
    exact ⟨ret_int hE.symm, by go_grown⟩

/-- Fits: the code of a list that is too deep, or too great. -/
def fits (t : T) : Int := if 40 < dp t then 9 else if 4096 < rsz t then 14 else 0
theorem fits_9 {t : T} (h : 40 < dp t) : fits t = 9 := by unfold fits; rw [if_pos h]
theorem fits_14 {t : T} (h : dp t ≤ 40) (h2 : 4096 < rsz t) : fits t = 14 := by unfold fits; rw [if_neg (by omega), if_pos h2]
theorem fits_0 {t : T} (h : dp t ≤ 40) (h2 : rsz t ≤ 4096) : fits t = 0 := by unfold fits; rw [if_neg (by omega), if_neg (by omega)]
set_option maxHeartbeats 400000 in
theorem fits_any (t : T) (w : World) (lo hi : Nat) (v : Value) (hr : Rep w lo hi t v) (hhi : hi ≤ w.heap.size) (hsz : sz t ≤ 1000000) :
    Calls Try.prog 37 #[v] w fun e w' => e = .returned (.int .i64 (fits t)) ∧ Below w.heap.size w w' := by
  have hd := dp_le_sz t
  have hq := rsz_le t
  have hr0 := hr
  match t, hr0 with
  | .mk k n s l, hr0 =>
    unfold Rep at hr0
    obtain ⟨p, cap, rfl, _⟩ := hr0
    by_cases h1 : 40 < dp (.mk k n s l)
    all_goals by_cases h2 : 4096 < rsz (.mk k n s l)
    all_goals
      go_enter Try.func37, Try.ntmps37
      go_wp2_with (first
        | (go_at_call 57; refine (rdeep_any _ _ lo hi _ (hr.alloc hhi _) (by simp; omega) (by omega)).mono ?_; rintro e w2 ⟨rfl, hb2⟩; obtain ⟨hc2, hf2⟩ := below_bcell hb2)
        | (go_at_call 58; refine (rsize_any _ _ lo hi _ ((hr.alloc hhi _).below hb2 (by simp; omega)) (by have := hb2.size; simp at this; omega) (by omega)).mono ?_; rintro e w3 ⟨rfl, hb3⟩; obtain ⟨hc3, hf3⟩ := below_bcell hb3))
      go_ret
      refine ⟨ret_int (by first | exact (fits_9 (by omega)).symm | exact (fits_14 (by omega) (by omega)).symm | exact (fits_0 (by omega) (by omega)).symm), ?_⟩
      first
        | exact ((Below.refl _ _).alloc (Nat.le_refl _) _).trans (hb2.mono (by simp))
        | exact (((Below.refl _ _).alloc (Nat.le_refl _) _).trans (hb2.mono (by simp))).trans (hb3.mono (by have := hb2.size; simp at this; omega))

end Go.Proofs.Ytjipchloebbldaa
