/- The document's patterns: which may be, which words fit. -/
import Derived.Test.YtcecgfijfnnpeaaDoorMa
import Derived.Laws.Concat
namespace Go.Proofs.YtcecgfijfnnpeaaDoor.Mt
open Go.RowKit
set_option maxRecDepth 100000

theorem ext_parts {s : ByteArray} {a b : Ls} (h : s.data.toList = a ++ 42 :: b) : (s.extract 0 a.length).data.toList = a ∧ (s.extract (a.length + 1) s.size).data.toList = b ∧ a.length + 1 + b.length = s.size := by
  have hl := len_data s
  rw [h, List.length_append, List.length_cons] at hl
  refine ⟨?_, ?_, by omega⟩
  · rw [Lib.extract_data, h]; simp
  · rw [Lib.extract_data, h, ← hl]
    have e : (a ++ 42 :: b).drop (a.length + 1) = b := by
      rw [show a.length + 1 = (a ++ [42]).length by simp, show a ++ 42 :: b = (a ++ [42]) ++ b by simp, List.drop_left]
    rw [e, List.take_of_length_le (by omega)]

section
attribute [local go_sem ↓] run_string_add
set_option maxHeartbeats 1000000 in
theorem pattern_any (s : ByteArray) (hs : s.size ≤ 1000000) (w : World) : Calls Tryd.prog 34 #[.string s] w fun e w' => e = .returned (.bool (patB s.data.toList)) ∧ Below w.heap.size w w' := by
  have hq : (s.toList == [42]) = (s.data.toList == [42]) := beq_bytes
  cases hst : (s.data.toList == [42]) with
  | true =>
    rw [hst] at hq
    have HP : Hid (patB s.data.toList = true) := Lib.hid (by unfold patB; rw [hst]; rfl)
    clear hst
    go_enter Tryd.func34, Tryd.ntmps34
    go_wp2
    go_ret; exact ⟨by rw [HP.out]; rfl, Below.refl _ _⟩
  | false =>
    rw [hst] at hq
    have HS := Lib.hid (fun (w : World) => star_any s (by omega) w)
    rcases first_of s.data.toList 42 with h | ⟨a, b, h1, h2⟩
    · have HP := Lib.hid (pat_no _ h)
      have HS1 := Lib.hid (fun w => by have := HS.out w; rw [index_no _ _ h] at this; exact this)
      have HI := Lib.hid (fun w => risName_any s (by omega) w)
      clear hst h HS
      go_enter Tryd.func34, Tryd.ntmps34
      go_wp2_with (first
        | (go_at_call 51; refine (HS1.out _).mono ?_; rintro e w2 ⟨rfl, rfl⟩)
        | (go_at_call 52; refine (HI.out _).mono ?_; rintro e w2 ⟨rfl, rfl⟩))
      go_ret; exact ⟨by rw [HP.out]; rfl, Below.refl _ _⟩
    · obtain ⟨e1, e2, e3⟩ := ext_parts h1
      have hab : (a ++ b).isEmpty = false := by
        cases hx : (a ++ b).isEmpty with
        | false => rfl
        | true =>
          rw [List.isEmpty_iff, List.append_eq_nil_iff] at hx
          rw [h1, hx.1, hx.2] at hst
          exact absurd hst (by decide)
      have HP : Hid (patB s.data.toList = nameL (a ++ b)) := Lib.hid (by rw [h1, pat_at a b h2, hab]; rfl)
      have HS1 := Lib.hid (fun w => by have := HS.out w; rw [h1, index_at a b 42 h2] at this; exact this)
      obtain ⟨k, hk⟩ : ∃ k, a.length = k := ⟨_, rfl⟩
      obtain ⟨k1, hk1⟩ : ∃ k1, k + 1 = k1 := ⟨_, rfl⟩
      rw [hk] at e1 e2 e3 HS1
      rw [hk1] at e2 e3
      obtain ⟨A, hA⟩ : ∃ A, s.extract 0 k = A := ⟨_, rfl⟩
      obtain ⟨B, hB⟩ : ∃ B, s.extract k1 s.size = B := ⟨_, rfl⟩
      rw [hA] at e1
      rw [hB] at e2
      have hAz : A.size = k := by rw [← len_data, e1, hk]
      have hBz : B.size = b.length := by rw [← len_data, e2]
      have HI := Lib.hid (fun w => by
        have := risName_any (A ++ B) (by rw [ByteArray.size_append]; omega) w
        rw [data_app, e1, e2] at this; exact this)
      have k0 : (0 : Int) ≤ (k : Int) := by omega
      have k2 : (k : Int) ≤ (s.size : Int) := by omega
      have k3 : (k1 : Int) ≤ (s.size : Int) := by omega
      have k4 : (k : Int) + 1 = (k1 : Int) := by omega
      have k6 : (k1 : Int) ≤ 9223372036854775807 := by omega
      have z1 : (A.size : Int) ≤ 8388608 := by omega
      have z2 : (B.size : Int) ≤ 8388608 := by omega
      have hd : decide ((0 : Int) ≤ (k : Int)) = true := by simp
      clear hst h1 h2 HS e1 e2 hab hk hk1 hAz hBz
      go_enter Tryd.func34, Tryd.ntmps34
      go_wp2_with (go_at_call 51; refine (HS1.out _).mono ?_; rintro e w2 ⟨rfl, rfl⟩)
      go_quiet (fail)
      go_wp2_with (go_at_call 52; refine (HI.out _).mono ?_; rintro e w2 ⟨rfl, rfl⟩)
      go_ret; exact ⟨by rw [HP.out]; rfl, below_dn _ _⟩
set_option maxHeartbeats 1000000 in
theorem rfits_any (p s : ByteArray) (hp : p.size ≤ 1000000) (w : World) : Calls Tryd.prog 36 #[.string p, .string s] w fun e w' => e = .returned (.bool (fitsB p.data.toList s.data.toList)) ∧ Below w.heap.size w w' := by
  have HS := Lib.hid (fun (w : World) => star_any p (by omega) w)
  rcases first_of p.data.toList 42 with h | ⟨a, b, h1, h2⟩
  · have hf := fits_no _ s.data.toList h
    have hq : (p.toList == s.toList) = (s.data.toList == p.data.toList) := by
      rw [bytes_beq, Bool.eq_iff_iff, beq_iff_eq, beq_iff_eq]; exact ⟨fun h => h.symm, fun h => h.symm⟩
    have HP := Lib.hid (hf.trans hq.symm)
    have HS1 := Lib.hid (fun w => by have := HS.out w; rw [index_no _ _ h] at this; exact this)
    clear hf hq h HS
    go_enter Tryd.func36, Tryd.ntmps36
    go_wp2_with (go_at_call 51; refine (HS1.out _).mono ?_; rintro e w2 ⟨rfl, rfl⟩)
    go_ret; exact ⟨by rw [HP.out]; rfl, Below.refl _ _⟩
  · obtain ⟨e1, e2, e3⟩ := ext_parts h1
    have hf := fits_at a b s.data.toList h2
    rw [← h1] at hf
    have HS1 := Lib.hid (fun w => by have := HS.out w; rw [h1, index_at a b 42 h2] at this; exact this)
    obtain ⟨k, hk⟩ : ∃ k, a.length = k := ⟨_, rfl⟩
    obtain ⟨k1, hk1⟩ : ∃ k1, k + 1 = k1 := ⟨_, rfl⟩
    rw [hk] at e1 e2 e3 HS1
    rw [hk1] at e2 e3
    obtain ⟨A, hA⟩ : ∃ A, p.extract 0 k = A := ⟨_, rfl⟩
    obtain ⟨B, hB⟩ : ∃ B, p.extract k1 p.size = B := ⟨_, rfl⟩
    rw [hA] at e1
    rw [hB] at e2
    have hAz : A.size = k := by rw [← len_data, e1, hk]
    have hBz : B.size = b.length := by rw [← len_data, e2]
    rw [← e1, ← e2] at hf
    have H1 := Lib.hid (fun w => rbegins_any s A w)
    have H2 := Lib.hid (fun w => by have := rbegins_any (A ++ B) s w; rw [data_app] at this; exact this)
    have k0 : (0 : Int) ≤ (k : Int) := by omega
    have k2 : (k : Int) ≤ (p.size : Int) := by omega
    have k3 : (k1 : Int) ≤ (p.size : Int) := by omega
    have k4 : (k : Int) + 1 = (k1 : Int) := by omega
    have k6 : (k1 : Int) ≤ 9223372036854775807 := by omega
    have z1 : (A.size : Int) ≤ 8388608 := by omega
    have z2 : (B.size : Int) ≤ 8388608 := by omega
    have hd : decide ((k : Int) < 0) = false := by simp
    have hbe : B.data.toList.isEmpty = decide (B.size = 0) := by rw [← Go.ByteArray.toList_eq]; exact empty_iff B
    clear h1 h2 HS e1 e2 hk hk1
    cases hx : Lib.hasPrefix s.data.toList A.data.toList with
    | false =>
      have HP : Hid (fitsB p.data.toList s.data.toList = false) := Lib.hid (by rw [hf, hx]; rfl)
      have H3 := Lib.hid (fun w => by have := H1.out w; rw [hx] at this; exact this)
      clear hx hf H1 H2 hAz hBz hbe
      go_enter Tryd.func36, Tryd.ntmps36
      go_wp2_with (first
        | (go_at_call 51; refine (HS1.out _).mono ?_; rintro e w2 ⟨rfl, rfl⟩)
        | (go_at_call 43; refine (H3.out _).mono ?_; rintro e w2 ⟨rfl, rfl⟩))
      go_ret; exact ⟨by rw [HP.out]; rfl, Below.refl _ _⟩
    | true =>
      have H3 := Lib.hid (fun w => by have := H1.out w; rw [hx] at this; exact this)
      rw [hx, Bool.true_and, hbe] at hf
      by_cases hb0 : B.size = 0
      · have HP : Hid (fitsB p.data.toList s.data.toList = true) := Lib.hid (by rw [hf, decide_eq_true hb0]; rfl)
        have hkl : ((k : Int) == (p.size : Int) - 1) = true := by rw [beq_iff_eq]; omega
        clear hx hf H1 H2 hAz hBz hbe hb0
        go_enter Tryd.func36, Tryd.ntmps36
        go_wp2_with (first
          | (go_at_call 51; refine (HS1.out _).mono ?_; rintro e w2 ⟨rfl, rfl⟩)
          | (go_at_call 43; refine (H3.out _).mono ?_; rintro e w2 ⟨rfl, rfl⟩))
        go_ret; exact ⟨by rw [HP.out]; rfl, Below.refl _ _⟩
      · have HP : Hid (fitsB p.data.toList s.data.toList = Lib.hasPrefix (A.data.toList ++ B.data.toList) s.data.toList) := Lib.hid (by rw [hf, decide_eq_false hb0]; rfl)
        have hkl : ((k : Int) == (p.size : Int) - 1) = false := by rw [beq_eq_false_iff_ne]; omega
        have H4 := Lib.hid (fun w => quiet_ret (H2.out w))
        clear hx hf H1 H2 hAz hBz hbe hb0
        go_enter Tryd.func36, Tryd.ntmps36
        go_wp2_with (first
          | (go_at_call 51; refine (HS1.out _).mono ?_; rintro e w2 ⟨rfl, rfl⟩)
          | (go_at_call 43; (with_reducible refine (H3.out _).mono ?_); rintro e w2 ⟨rfl, rfl⟩))
        go_quiet ((go_at_call 43; refine Calls.quiet_of (H4.out _)))
        go_wp2
        go_ret; exact ⟨by rw [HP.out]; rfl, below_dn _ _⟩
end
end Go.Proofs.YtcecgfijfnnpeaaDoor.Mt
